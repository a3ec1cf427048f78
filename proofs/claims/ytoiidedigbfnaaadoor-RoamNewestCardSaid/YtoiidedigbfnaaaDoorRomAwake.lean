/- awake of the laws of roam. Written by tools/gen_rom.py. -/
import Derived.Test.YtoiidedigbfnaaaDoorRomCode
import Derived.Test.YtoiidedigbfnaaaDoorRomSame
import Derived.Test.YtoiidedigbfnaaaDoorFrmSeal
import Derived.Test.YtoiidedigbfnaaaDoorRegInv
import Derived.Laws.BytesArg
import Derived.Deep.QuietTactic
import Derived.BigQuiet
import Derived.Deep.Cut
import Derived.Deep.LoopGhost
import Derived.Deep.RegionLaw
import Derived.Deep.RegionHeld3
import Derived.IntWalk
import Derived.Lib.SmallJoins
namespace Go.Proofs.YtoiidedigbfnaaaDoor
open Go.RowKit Sha Six Apd Cut Err Frm
set_option linter.unusedVariables false
set_option linter.unusedSimpArgs false
namespace Rom
theorem lit_b (W : World) (c : Nat) (hc : c < 256) : Byts (W.alloc (.cells #[.int .u8 (c : Int)] 5)) (some ⟨W.heap.size, 0, none⟩) 1 [c] := ⟨lit_in W [c], by simpa using hc, nofun⟩
theorem lit_2 (W : World) (x y : Nat) (hx : x < 256) (hy : y < 256) : Byts ((W.alloc (.cells #[.int .u8 (x : Int)] 5)).alloc (.cells #[.int .u8 (y : Int)] 5)) (some ⟨W.heap.size, 0, none⟩) 1 [x] ∧ Byts ((W.alloc (.cells #[.int .u8 (x : Int)] 5)).alloc (.cells #[.int .u8 (y : Int)] 5)) (some ⟨W.heap.size + 1, 0, none⟩) 1 [y] := by
  refine ⟨(lit_b W x hx).below (al_any _ _), ?_⟩
  have := lit_b (W.alloc (.cells #[.int .u8 (x : Int)] 5)) y hy
  rwa [World.size_alloc] at this
def g0 : G := ⟨[107], 0, ⟨0, 0⟩, ⟨#[]⟩, 0⟩
def g1 : G := ⟨[107], 0, ⟨3, 1⟩, ⟨#[120]⟩, 3⟩
def g2 : G := ⟨[107], 0, ⟨3, 3⟩, ⟨#[120]⟩, 3⟩
def f3 : F := ⟨0, 3, [98]⟩
def f2 : F := ⟨0, 2, []⟩
theorem come_1 : come g0 ⟨#[120]⟩ (seal_ [107] f3) = (g1, [98], 0) := by
  have := come_sealed (g := g0) ⟨#[120]⟩ (f := f3) rfl rfl
  exact this
theorem come_2 : come g1 ⟨#[121]⟩ (seal_ [107] f2) = (g2, [], 0) := by
  have := come_sealed (g := g1) ⟨#[121]⟩ (f := f2) rfl rfl
  exact this
theorem come_3 : come g2 ⟨#[122]⟩ [110, 111] = (g2, [], 2) := by
  unfold come
  rw [show open_ g2.k g2.d [110, 111] = (none_, 2) from if_pos (by decide)]
  rfl
theorem conv_str {w : World} {a : Option Addr} {c : Nat} {xs : List Nat} (h : Byts w a c xs) (h0 : 0 < xs.length) : (convert 22 9 (.slice a xs.length c)).run Tryd.prog w = .ok (.string (strOfNums (xs.map Int.ofNat))) w := by
  obtain ⟨⟨ad, cap, he, hl, hc⟩, h8, hn⟩ := h
  simp only [Value.slice.injEq, true_and] at he
  obtain ⟨rfl, rfl⟩ := he
  rcases hc with hc | ⟨b, o, rfl, hc⟩
  · subst hc; exact absurd h0 (by decide)
  · exact run_convert_bytes_arg w 22 5 Tryd.underlying22 Tryd.underlying5 b o _ _ (xs.map Int.ofNat) (by simp) (fun i hi => by
      rw [hc i hi]
      simp [List.getD_eq_getElem?_getD, List.getElem?_map, hi]) 9 Tryd.underlying9
set_option maxRecDepth 100000 in
set_option maxHeartbeats 8000000 in
theorem awake_any (w : World) (hg : Handle w) : Calls Tryd.prog 6 #[] w fun e w' => e = .returned (.bool true) ∧ Below w.heap.size w w' := by
  have HG := Lib.hid fun W (hb : Below w.heap.size w W) => hand_of hg hb
  have HS1 := Lib.hid fun W a b (ha : Byts W (some a) 1 [107]) (hb : Byts W (some b) 1 [98]) => rseal_any f3 [107] (some a) 1 1 (some b) 1 W (by decide) rfl (by simp) ha.at_ ha.nil hb.at_ hb.small hb.nil rfl
  have HC1 := Lib.hid fun W ka kc ba bc (hk : Byts W ka kc [107]) (hb : Byts W ba bc (seal_ [107] f3)) => come_any g0 ⟨#[120]⟩ (seal_ [107] f3) ka kc ba bc W hk hb (by decide) (by rw [seal_len]; decide) rfl ⟨by decide, rfl⟩ rfl
  rw [come_1] at HC1
  have HS2 := Lib.hid fun W a (ha : Byts W (some a) 1 [107]) => rseal_any f2 [107] (some a) 1 1 none 0 W (by decide) rfl (by simp) ha.at_ ha.nil (byts_nil W).at_ (by simp [f2]) (fun _ => ⟨rfl, rfl⟩) rfl
  have HC2 := Lib.hid fun W ka kc ba bc (hk : Byts W ka kc [107]) (hb : Byts W ba bc (seal_ [107] f2)) => come_any g1 ⟨#[121]⟩ (seal_ [107] f2) ka kc ba bc W hk hb (by decide) (by rw [seal_len]; decide) rfl ⟨by decide, rfl⟩ rfl
  have HC3 := Lib.hid fun W ka kc ba bc (hk : Byts W ka kc [107]) (hb : Byts W ba bc [110, 111]) => come_any g2 ⟨#[122]⟩ [110, 111] ka kc ba bc W hk hb (by decide) (by decide) rfl ⟨by decide, rfl⟩ rfl
  rw [come_2] at HC2
  rw [come_3] at HC3
  have HL1 := Lib.hid (show (seal_ [107] f3).length = 27 from by rw [seal_len]; rfl)
  have H81 := Lib.hid (show ∀ x ∈ seal_ [107] f3, x < 256 from seal_small [107] (.inl rfl) (by simp [f3]))
  have HL2 := Lib.hid (show (seal_ [107] f2).length = 26 from by rw [seal_len]; rfl)
  have H82 := Lib.hid (show ∀ x ∈ seal_ [107] f2, x < 256 from seal_small [107] (.inl rfl) (by simp [f2]))
  generalize seal_ [107] f3 = m1 at *
  generalize seal_ [107] f2 = m2 at *
  simp only [GaveR, errn_0, errn_pos (show (2 : Nat) ≠ 0 by decide), g0, g1, g2, f3, f2, List.length_cons, List.length_nil, Nat.zero_add, Nat.reduceAdd] at HS1 HC1 HS2 HC2 HC3
  rw [HL1.out] at HC1 HS1
  rw [HL2.out] at HC2 HS2
  have HK := Lib.hid fun (W : World) (c : Nat) (hc : c < 256) => (show Byts (W.alloc (.cells #[.int .u8 (c : Int)] 5 (1, 1 + 1))) (some ⟨W.heap.size, 0, none⟩) 1 [c] from ⟨⟨_, _, rfl, Nat.le_refl _, .inr ⟨_, 0, rfl, fun j hj => by
    rw [World.cell?_alloc_mark]
    have h0 : j = 0 := by simp at hj; omega
    subst h0
    rfl⟩⟩, by simpa using hc, nofun⟩)
  have kc := fun (w : World) (C : Array Value) (n c : Nat) => Lib.run_convert_bytes_const (P := Tryd.prog) w 22 5 C n c Tryd.underlying22 Tryd.underlying5
  clear hg
  go_enter Tryd.func6, Tryd.ntmps6
  have B1 := Lib.hid (HK.out w 107 (by decide))
  have K1 := Lib.hid (al_any w (.cells #[.int .u8 107] 5 (1, 1 + 1)))
  have REGGX := Lib.hid (heap_alloc_new (w.alloc (.cells #[.int .u8 107] 5 (1, 1 + 1))) (.cells #[.slice (some ⟨w.heap.size, 0, none⟩) 1 1, .int .i64 0, .int .i64 0, .int .u64 0, .string ⟨#[]⟩, .int .i64 0] 31))
  have REGGKB := Lib.hid (B1.out.below (al_any _ (.cells #[.slice (some ⟨w.heap.size, 0, none⟩) 1 1, .int .i64 0, .int .i64 0, .int .u64 0, .string ⟨#[]⟩, .int .i64 0] 31)))
  have REGB := Lib.hid (kept_trans K1.out (al_any _ (.cells #[.slice (some ⟨w.heap.size, 0, none⟩) 1 1, .int .i64 0, .int .i64 0, .int .u64 0, .string ⟨#[]⟩, .int .i64 0] 31)))
  rw [show (w.alloc (.cells #[.int .u8 107] 5 (1, 1 + 1))).heap.size = w.heap.size + 1 from by simp] at REGGX
  go_upto_region 2 with (fail)
  generalize (w.alloc _).alloc _ = w1 at *
  refine Reg.wp_region_inv (by kernel_rfl) (fun A0 l a W => ∃ (u2 u3 u4 u14 u15 u16 u17 u18 u19 u20 u21 u22 u23 u24 u25 : Value), a = Reg.over A0 [(2, u2), (3, u3), (4, u4), (14, u14), (15, u15), (16, u16), (17, u17), (18, u18), (19, u19), (20, u20), (21, u21), (22, u22), (23, u23), (24, u24), (25, u25)] ∧ Below w.heap.size w W ∧ W.heap[w.heap.size + 1]? = some (.cells #[.slice (some ⟨w.heap.size, 0, none⟩) 1 1, .int .i64 0, .int .i64 0, .int .u64 0, .string ⟨#[]⟩, .int .i64 0] 31) ∧ Byts W (some ⟨w.heap.size, 0, none⟩) 1 [107] ∧ (Reg.L l 0 → ¬ Reg.L l 7 → u15 = .agg #[.slice (some ⟨w.heap.size, 0, none⟩) 1 1, .int .i64 0, .int .i64 0, .int .u64 0, .string ⟨#[]⟩, .int .i64 0]) ∧ (Reg.L l 1 → ¬ Reg.L l 2 → ∃ g1, u16 = .slice (some ⟨g1, 0, none⟩) 1 1 ∧ w.heap.size ≤ g1 ∧ W.heap[g1]? = some (.cells #[.int .u8 107] 5)) ∧ (Reg.L l 2 → ¬ Reg.L l 6 → ∃ g2, u17 = .slice (some ⟨g2, 0, none⟩) 1 1 ∧ W.heap[g2]? = some (.cells #[.int .u8 107] 5 (1, 1 + 1))) ∧ (Reg.L l 3 → ¬ Reg.L l 4 → ∃ g3, u18 = .slice (some ⟨g3, 0, none⟩) 1 1 ∧ w.heap.size ≤ g3 ∧ W.heap[g3]? = some (.cells #[.int .u8 98] 5)) ∧ (Reg.L l 4 → ¬ Reg.L l 5 → ∃ g4, u19 = .slice (some ⟨g4, 0, none⟩) 1 1 ∧ W.heap[g4]? = some (.cells #[.int .u8 98] 5 (1, 1 + 1))) ∧ (Reg.L l 5 → ¬ Reg.L l 6 → ∃ g5, u20 = .agg #[.int .i64 0, .int .i64 3, .slice (some ⟨g5, 0, none⟩) 1 1] ∧ W.heap[g5]? = some (.cells #[.int .u8 98] 5 (1, 1 + 1))) ∧ (Reg.L l 6 → ¬ Reg.L l 7 → ∃ va vc, u21 = .slice va 27 vc ∧ Byts W va vc m1) ∧ (Reg.L l 7 → ¬ Reg.L l 8 → ∃ kh dh vh zh, u22 = .tuple #[.agg #[.slice kh 1 dh, .int .i64 0, .int .i64 3, .int .u64 1, .string ⟨#[120]⟩, .int .i64 3], .slice vh 1 zh, .nilIface] ∧ Byts W kh dh [107] ∧ Byts W vh zh [98]) ∧ (Reg.L l 8 → ∃ kh dh vh zh, u14 = .tuple #[.agg #[.slice kh 1 dh, .int .i64 0, .int .i64 3, .int .u64 1, .string ⟨#[120]⟩, .int .i64 3], .slice vh 1 zh, .nilIface] ∧ Byts W kh dh [107] ∧ Byts W vh zh [98]) ∧ (Reg.L l 9 → ¬ Reg.L l 13 → ∃ kh dh, u23 = .agg #[.slice kh 1 dh, .int .i64 0, .int .i64 3, .int .u64 1, .string ⟨#[120]⟩, .int .i64 3] ∧ Byts W kh dh [107]) ∧ (Reg.L l 10 → ¬ Reg.L l 14 → ∃ vh zh, u24 = .slice vh 1 zh ∧ Byts W vh zh [98]) ∧ (Reg.L l 11 → ¬ Reg.L l 15 → u25 = .nilIface) ∧ (Reg.L l 12 → ¬ Reg.L l 13 → ∃ gh, u2 = .pointer (some ⟨gh, 0, none⟩) ∧ w.heap.size ≤ gh ∧ W.heap[gh]? = some (.cells #[.slice none 0 0, .int .i64 0, .int .i64 0, .int .u64 0, .string ⟨#[]⟩, .int .i64 0] 31)) ∧ (Reg.L l 13 → ∃ gh kh dh, u2 = .pointer (some ⟨gh, 0, none⟩) ∧ W.heap[gh]? = some (.cells #[.slice kh 1 dh, .int .i64 0, .int .i64 3, .int .u64 1, .string ⟨#[120]⟩, .int .i64 3] 31) ∧ Byts W kh dh [107]) ∧ (Reg.L l 14 → ∃ vh zh, u3 = .slice vh 1 zh ∧ Byts W vh zh [98]) ∧ (Reg.L l 15 → u4 = .nilIface)) ?_ ?_ ?_
  · exact ⟨_, _, _, _, _, _, _, _, _, _, _, _, _, _, _, (Reg.over_self _ [2, 3, 4, 14, 15, 16, 17, 18, 19, 20, 21, 22, 23, 24, 25]).symm, REGB.out.drew, REGGX.out, REGGKB.out.below (Below.refl _ _).drew, fun h => (Reg.L_none h).elim, fun h => (Reg.L_none h).elim, fun h => (Reg.L_none h).elim, fun h => (Reg.L_none h).elim, fun h => (Reg.L_none h).elim, fun h => (Reg.L_none h).elim, fun h => (Reg.L_none h).elim, fun h => (Reg.L_none h).elim, fun h => (Reg.L_none h).elim, fun h => (Reg.L_none h).elim, fun h => (Reg.L_none h).elim, fun h => (Reg.L_none h).elim, fun h => (Reg.L_none h).elim, fun h => (Reg.L_none h).elim, fun h => (Reg.L_none h).elim, fun h => (Reg.L_none h).elim⟩
  · intro l a W i hl hD hJ hi
    obtain ⟨u2, u3, u4, u14, u15, u16, u17, u18, u19, u20, u21, u22, u23, u24, u25, hA, HB, GX, GKB, F0, F1, F2, F3, F4, F5, F6, F7, F8, F9, F10, F11, F12, F13, F14, F15⟩ := hJ
    simp only [Reg.over, List.foldl_cons, List.foldl_nil, List.setIfInBounds_toArray, List.set_cons_zero, List.set_cons_succ] at hA
    subst hA
    have hN : l.size = 16 := hl
    have hlt : i < 16 := (Reg.turn hi).2
    have hcs : i = 0 ∨ i = 1 ∨ i = 2 ∨ i = 3 ∨ i = 4 ∨ i = 5 ∨ i = 6 ∨ i = 7 ∨ i = 8 ∨ i = 9 ∨ i = 10 ∨ i = 11 ∨ i = 12 ∨ i = 13 ∨ i = 14 ∨ i = 15 := by omega
    clear hlt
    rcases hcs with rfl | rfl | rfl | rfl | rfl | rfl | rfl | rfl | rfl | rfl | rfl | rfl | rfl | rfl | rfl | rfl
    · have tn := (Reg.turn hi).1
      refine wpOp_step rfl ?_
      intro K' hK
      clear hi
      obtain ⟨c0, c1, c2, c3, c4, c5⟩ := cells6 GX
      go_simp
      clear c0 c1 c2 c3 c4 c5
      refine hK _ _ ⟨(u2), (u3), (u4), (u14), (.agg #[.slice (some ⟨w.heap.size, 0, none⟩) 1 1, .int .i64 0, .int .i64 0, .int .u64 0, .string ⟨#[]⟩, .int .i64 0]), (u16), (u17), (u18), (u19), (u20), (u21), (u22), (u23), (u24), (u25), (by kernel_rfl), HB, GX, GKB, fun _ _ => rfl,
          fun h hn => F1 (Reg.set_ne (by decide) h) (fun h' => hn (Reg.no_set h' (by rw [hN]; decide))),
          fun h hn => F2 (Reg.set_ne (by decide) h) (fun h' => hn (Reg.no_set h' (by rw [hN]; decide))),
          fun h hn => F3 (Reg.set_ne (by decide) h) (fun h' => hn (Reg.no_set h' (by rw [hN]; decide))),
          fun h hn => F4 (Reg.set_ne (by decide) h) (fun h' => hn (Reg.no_set h' (by rw [hN]; decide))),
          fun h hn => F5 (Reg.set_ne (by decide) h) (fun h' => hn (Reg.no_set h' (by rw [hN]; decide))),
          fun h hn => F6 (Reg.set_ne (by decide) h) (fun h' => hn (Reg.no_set h' (by rw [hN]; decide))),
          fun h hn => F7 (Reg.set_ne (by decide) h) (fun h' => hn (Reg.no_set h' (by rw [hN]; decide))),
          fun h => F8 (Reg.set_ne (by decide) h),
          fun h hn => F9 (Reg.set_ne (by decide) h) (fun h' => hn (Reg.no_set h' (by rw [hN]; decide))),
          fun h hn => F10 (Reg.set_ne (by decide) h) (fun h' => hn (Reg.no_set h' (by rw [hN]; decide))),
          fun h hn => F11 (Reg.set_ne (by decide) h) (fun h' => hn (Reg.no_set h' (by rw [hN]; decide))),
          fun h hn => F12 (Reg.set_ne (by decide) h) (fun h' => hn (Reg.no_set h' (by rw [hN]; decide))),
          fun h => F13 (Reg.set_ne (by decide) h),
          fun h => F14 (Reg.set_ne (by decide) h),
          fun h => F15 (Reg.set_ne (by decide) h)⟩
    · have tn := (Reg.turn hi).1
      refine wpOp_step rfl ?_
      intro K' hK
      clear hi
      have HST := al_any W (.cells #[.int .u8 107] 5)
      go_simp
      refine hK _ _ ⟨(u2), (u3), (u4), (u14), (u15), (.slice (some ⟨W.heap.size, 0, none⟩) 1 1), (u17), (u18), (u19), (u20), (u21), (u22), (u23), (u24), (u25), (by kernel_rfl), (kept_trans HB HST), (blk GX HST), (GKB.below HST), fun h hn => F0 (Reg.set_ne (by decide) h) (fun h' => hn (Reg.no_set h' (by rw [hN]; decide))),
          fun _ _ => ⟨_, rfl, HB.size, heap_alloc_new _ _⟩,
          fun h hn => (let ⟨g2, p0, p1⟩ := F2 (Reg.set_ne (by decide) h) (fun h' => hn (Reg.no_set h' (by rw [hN]; decide))); ⟨g2, p0, (blk p1 HST)⟩),
          fun h hn => (let ⟨g3, p0, p1, p2⟩ := F3 (Reg.set_ne (by decide) h) (fun h' => hn (Reg.no_set h' (by rw [hN]; decide))); ⟨g3, p0, p1, (blk p2 HST)⟩),
          fun h hn => (let ⟨g4, p0, p1⟩ := F4 (Reg.set_ne (by decide) h) (fun h' => hn (Reg.no_set h' (by rw [hN]; decide))); ⟨g4, p0, (blk p1 HST)⟩),
          fun h hn => (let ⟨g5, p0, p1⟩ := F5 (Reg.set_ne (by decide) h) (fun h' => hn (Reg.no_set h' (by rw [hN]; decide))); ⟨g5, p0, (blk p1 HST)⟩),
          fun h hn => (let ⟨va, vc, p0, p1⟩ := F6 (Reg.set_ne (by decide) h) (fun h' => hn (Reg.no_set h' (by rw [hN]; decide))); ⟨va, vc, p0, (p1.below HST)⟩),
          fun h hn => (let ⟨kh, dh, vh, zh, p0, p1, p2⟩ := F7 (Reg.set_ne (by decide) h) (fun h' => hn (Reg.no_set h' (by rw [hN]; decide))); ⟨kh, dh, vh, zh, p0, (p1.below HST), (p2.below HST)⟩),
          fun h => (let ⟨kh, dh, vh, zh, p0, p1, p2⟩ := F8 (Reg.set_ne (by decide) h); ⟨kh, dh, vh, zh, p0, (p1.below HST), (p2.below HST)⟩),
          fun h hn => (let ⟨kh, dh, p0, p1⟩ := F9 (Reg.set_ne (by decide) h) (fun h' => hn (Reg.no_set h' (by rw [hN]; decide))); ⟨kh, dh, p0, (p1.below HST)⟩),
          fun h hn => (let ⟨vh, zh, p0, p1⟩ := F10 (Reg.set_ne (by decide) h) (fun h' => hn (Reg.no_set h' (by rw [hN]; decide))); ⟨vh, zh, p0, (p1.below HST)⟩),
          fun h hn => F11 (Reg.set_ne (by decide) h) (fun h' => hn (Reg.no_set h' (by rw [hN]; decide))),
          fun h hn => (let ⟨gh, p0, p1, p2⟩ := F12 (Reg.set_ne (by decide) h) (fun h' => hn (Reg.no_set h' (by rw [hN]; decide))); ⟨gh, p0, p1, (blk p2 HST)⟩),
          fun h => (let ⟨gh, kh, dh, p0, p1, p2⟩ := F13 (Reg.set_ne (by decide) h); ⟨gh, kh, dh, p0, (blk p1 HST), (p2.below HST)⟩),
          fun h => (let ⟨vh, zh, p0, p1⟩ := F14 (Reg.set_ne (by decide) h); ⟨vh, zh, p0, (p1.below HST)⟩),
          fun h => F15 (Reg.set_ne (by decide) h)⟩
    · have tn := (Reg.turn hi).1
      have z := F1 (Reg.dep hi (by kernel_rfl)) tn
      obtain ⟨g1, rfl, e1_1, e1_2⟩ := z
      refine wpOp_step rfl ?_
      intro K' hK
      clear hi
      have HFZ := e1_2
      have hk := Reg.run_conv (P := Tryd.prog) W 22 5 _ 1 1 _ HFZ Tryd.underlying22 Tryd.underlying5
      go_simp
      refine hK _ _ ⟨(u2), (u3), (u4), (u14), (u15), (.slice (some ⟨g1, 0, none⟩) 1 1), (.slice (some ⟨g1, 0, none⟩) 1 1), (u18), (u19), (u20), (u21), (u22), (u23), (u24), (u25), (by kernel_rfl), (HB.grown (Reg.freeze_grown _ _ _) HB.size (by intro q hq; injection hq with hq; omega)), ((Reg.freeze_other (Reg.ne_of_obj GX HFZ (by simp))).trans GX), (Reg.Byts.freeze GKB _ _), fun h hn => F0 (Reg.set_ne (by decide) h) (fun h' => hn (Reg.no_set h' (by rw [hN]; decide))),
          fun _ h => (h (Reg.set_self (by rw [hN]; decide))).elim,
          fun _ _ => ⟨_, rfl, Reg.freeze_heap HFZ⟩,
          fun h hn => (let ⟨g3, p0, p1, p2⟩ := F3 (Reg.set_ne (by decide) h) (fun h' => hn (Reg.no_set h' (by rw [hN]; decide))); ⟨g3, p0, p1, ((Reg.freeze_other (Reg.ne_of_obj p2 HFZ (by simp))).trans p2)⟩),
          fun h hn => (let ⟨g4, p0, p1⟩ := F4 (Reg.set_ne (by decide) h) (fun h' => hn (Reg.no_set h' (by rw [hN]; decide))); ⟨g4, p0, ((Reg.freeze_other (Reg.ne_of_obj p1 HFZ (by simp))).trans p1)⟩),
          fun h hn => (let ⟨g5, p0, p1⟩ := F5 (Reg.set_ne (by decide) h) (fun h' => hn (Reg.no_set h' (by rw [hN]; decide))); ⟨g5, p0, ((Reg.freeze_other (Reg.ne_of_obj p1 HFZ (by simp))).trans p1)⟩),
          fun h hn => (let ⟨va, vc, p0, p1⟩ := F6 (Reg.set_ne (by decide) h) (fun h' => hn (Reg.no_set h' (by rw [hN]; decide))); ⟨va, vc, p0, (Reg.Byts.freeze p1 _ _)⟩),
          fun h hn => (let ⟨kh, dh, vh, zh, p0, p1, p2⟩ := F7 (Reg.set_ne (by decide) h) (fun h' => hn (Reg.no_set h' (by rw [hN]; decide))); ⟨kh, dh, vh, zh, p0, (Reg.Byts.freeze p1 _ _), (Reg.Byts.freeze p2 _ _)⟩),
          fun h => (let ⟨kh, dh, vh, zh, p0, p1, p2⟩ := F8 (Reg.set_ne (by decide) h); ⟨kh, dh, vh, zh, p0, (Reg.Byts.freeze p1 _ _), (Reg.Byts.freeze p2 _ _)⟩),
          fun h hn => (let ⟨kh, dh, p0, p1⟩ := F9 (Reg.set_ne (by decide) h) (fun h' => hn (Reg.no_set h' (by rw [hN]; decide))); ⟨kh, dh, p0, (Reg.Byts.freeze p1 _ _)⟩),
          fun h hn => (let ⟨vh, zh, p0, p1⟩ := F10 (Reg.set_ne (by decide) h) (fun h' => hn (Reg.no_set h' (by rw [hN]; decide))); ⟨vh, zh, p0, (Reg.Byts.freeze p1 _ _)⟩),
          fun h hn => F11 (Reg.set_ne (by decide) h) (fun h' => hn (Reg.no_set h' (by rw [hN]; decide))),
          fun h hn => (let ⟨gh, p0, p1, p2⟩ := F12 (Reg.set_ne (by decide) h) (fun h' => hn (Reg.no_set h' (by rw [hN]; decide))); ⟨gh, p0, p1, ((Reg.freeze_other (Reg.ne_of_obj p2 HFZ (by simp))).trans p2)⟩),
          fun h => (let ⟨gh, kh, dh, p0, p1, p2⟩ := F13 (Reg.set_ne (by decide) h); ⟨gh, kh, dh, p0, ((Reg.freeze_other (Reg.ne_of_obj p1 HFZ (by simp))).trans p1), (Reg.Byts.freeze p2 _ _)⟩),
          fun h => (let ⟨vh, zh, p0, p1⟩ := F14 (Reg.set_ne (by decide) h); ⟨vh, zh, p0, (Reg.Byts.freeze p1 _ _)⟩),
          fun h => F15 (Reg.set_ne (by decide) h)⟩
    · have tn := (Reg.turn hi).1
      refine wpOp_step rfl ?_
      intro K' hK
      clear hi
      have HST := al_any W (.cells #[.int .u8 98] 5)
      go_simp
      refine hK _ _ ⟨(u2), (u3), (u4), (u14), (u15), (u16), (u17), (.slice (some ⟨W.heap.size, 0, none⟩) 1 1), (u19), (u20), (u21), (u22), (u23), (u24), (u25), (by kernel_rfl), (kept_trans HB HST), (blk GX HST), (GKB.below HST), fun h hn => F0 (Reg.set_ne (by decide) h) (fun h' => hn (Reg.no_set h' (by rw [hN]; decide))),
          fun h hn => (let ⟨g1, p0, p1, p2⟩ := F1 (Reg.set_ne (by decide) h) (fun h' => hn (Reg.no_set h' (by rw [hN]; decide))); ⟨g1, p0, p1, (blk p2 HST)⟩),
          fun h hn => (let ⟨g2, p0, p1⟩ := F2 (Reg.set_ne (by decide) h) (fun h' => hn (Reg.no_set h' (by rw [hN]; decide))); ⟨g2, p0, (blk p1 HST)⟩),
          fun _ _ => ⟨_, rfl, HB.size, heap_alloc_new _ _⟩,
          fun h hn => (let ⟨g4, p0, p1⟩ := F4 (Reg.set_ne (by decide) h) (fun h' => hn (Reg.no_set h' (by rw [hN]; decide))); ⟨g4, p0, (blk p1 HST)⟩),
          fun h hn => (let ⟨g5, p0, p1⟩ := F5 (Reg.set_ne (by decide) h) (fun h' => hn (Reg.no_set h' (by rw [hN]; decide))); ⟨g5, p0, (blk p1 HST)⟩),
          fun h hn => (let ⟨va, vc, p0, p1⟩ := F6 (Reg.set_ne (by decide) h) (fun h' => hn (Reg.no_set h' (by rw [hN]; decide))); ⟨va, vc, p0, (p1.below HST)⟩),
          fun h hn => (let ⟨kh, dh, vh, zh, p0, p1, p2⟩ := F7 (Reg.set_ne (by decide) h) (fun h' => hn (Reg.no_set h' (by rw [hN]; decide))); ⟨kh, dh, vh, zh, p0, (p1.below HST), (p2.below HST)⟩),
          fun h => (let ⟨kh, dh, vh, zh, p0, p1, p2⟩ := F8 (Reg.set_ne (by decide) h); ⟨kh, dh, vh, zh, p0, (p1.below HST), (p2.below HST)⟩),
          fun h hn => (let ⟨kh, dh, p0, p1⟩ := F9 (Reg.set_ne (by decide) h) (fun h' => hn (Reg.no_set h' (by rw [hN]; decide))); ⟨kh, dh, p0, (p1.below HST)⟩),
          fun h hn => (let ⟨vh, zh, p0, p1⟩ := F10 (Reg.set_ne (by decide) h) (fun h' => hn (Reg.no_set h' (by rw [hN]; decide))); ⟨vh, zh, p0, (p1.below HST)⟩),
          fun h hn => F11 (Reg.set_ne (by decide) h) (fun h' => hn (Reg.no_set h' (by rw [hN]; decide))),
          fun h hn => (let ⟨gh, p0, p1, p2⟩ := F12 (Reg.set_ne (by decide) h) (fun h' => hn (Reg.no_set h' (by rw [hN]; decide))); ⟨gh, p0, p1, (blk p2 HST)⟩),
          fun h => (let ⟨gh, kh, dh, p0, p1, p2⟩ := F13 (Reg.set_ne (by decide) h); ⟨gh, kh, dh, p0, (blk p1 HST), (p2.below HST)⟩),
          fun h => (let ⟨vh, zh, p0, p1⟩ := F14 (Reg.set_ne (by decide) h); ⟨vh, zh, p0, (p1.below HST)⟩),
          fun h => F15 (Reg.set_ne (by decide) h)⟩
    · have tn := (Reg.turn hi).1
      have z := F3 (Reg.dep hi (by kernel_rfl)) tn
      obtain ⟨g3, rfl, e3_1, e3_2⟩ := z
      refine wpOp_step rfl ?_
      intro K' hK
      clear hi
      have HFZ := e3_2
      have hk := Reg.run_conv (P := Tryd.prog) W 22 5 _ 1 1 _ HFZ Tryd.underlying22 Tryd.underlying5
      go_simp
      refine hK _ _ ⟨(u2), (u3), (u4), (u14), (u15), (u16), (u17), (.slice (some ⟨g3, 0, none⟩) 1 1), (.slice (some ⟨g3, 0, none⟩) 1 1), (u20), (u21), (u22), (u23), (u24), (u25), (by kernel_rfl), (HB.grown (Reg.freeze_grown _ _ _) HB.size (by intro q hq; injection hq with hq; omega)), ((Reg.freeze_other (Reg.ne_of_obj GX HFZ (by simp))).trans GX), (Reg.Byts.freeze GKB _ _), fun h hn => F0 (Reg.set_ne (by decide) h) (fun h' => hn (Reg.no_set h' (by rw [hN]; decide))),
          fun h hn => (let ⟨g1, p0, p1, p2⟩ := F1 (Reg.set_ne (by decide) h) (fun h' => hn (Reg.no_set h' (by rw [hN]; decide))); ⟨g1, p0, p1, ((Reg.freeze_other (Reg.ne_of_obj p2 HFZ (by simp))).trans p2)⟩),
          fun h hn => (let ⟨g2, p0, p1⟩ := F2 (Reg.set_ne (by decide) h) (fun h' => hn (Reg.no_set h' (by rw [hN]; decide))); ⟨g2, p0, ((Reg.freeze_other (Reg.ne_of_obj p1 HFZ (by simp))).trans p1)⟩),
          fun _ h => (h (Reg.set_self (by rw [hN]; decide))).elim,
          fun _ _ => ⟨_, rfl, Reg.freeze_heap HFZ⟩,
          fun h hn => (let ⟨g5, p0, p1⟩ := F5 (Reg.set_ne (by decide) h) (fun h' => hn (Reg.no_set h' (by rw [hN]; decide))); ⟨g5, p0, ((Reg.freeze_other (Reg.ne_of_obj p1 HFZ (by simp))).trans p1)⟩),
          fun h hn => (let ⟨va, vc, p0, p1⟩ := F6 (Reg.set_ne (by decide) h) (fun h' => hn (Reg.no_set h' (by rw [hN]; decide))); ⟨va, vc, p0, (Reg.Byts.freeze p1 _ _)⟩),
          fun h hn => (let ⟨kh, dh, vh, zh, p0, p1, p2⟩ := F7 (Reg.set_ne (by decide) h) (fun h' => hn (Reg.no_set h' (by rw [hN]; decide))); ⟨kh, dh, vh, zh, p0, (Reg.Byts.freeze p1 _ _), (Reg.Byts.freeze p2 _ _)⟩),
          fun h => (let ⟨kh, dh, vh, zh, p0, p1, p2⟩ := F8 (Reg.set_ne (by decide) h); ⟨kh, dh, vh, zh, p0, (Reg.Byts.freeze p1 _ _), (Reg.Byts.freeze p2 _ _)⟩),
          fun h hn => (let ⟨kh, dh, p0, p1⟩ := F9 (Reg.set_ne (by decide) h) (fun h' => hn (Reg.no_set h' (by rw [hN]; decide))); ⟨kh, dh, p0, (Reg.Byts.freeze p1 _ _)⟩),
          fun h hn => (let ⟨vh, zh, p0, p1⟩ := F10 (Reg.set_ne (by decide) h) (fun h' => hn (Reg.no_set h' (by rw [hN]; decide))); ⟨vh, zh, p0, (Reg.Byts.freeze p1 _ _)⟩),
          fun h hn => F11 (Reg.set_ne (by decide) h) (fun h' => hn (Reg.no_set h' (by rw [hN]; decide))),
          fun h hn => (let ⟨gh, p0, p1, p2⟩ := F12 (Reg.set_ne (by decide) h) (fun h' => hn (Reg.no_set h' (by rw [hN]; decide))); ⟨gh, p0, p1, ((Reg.freeze_other (Reg.ne_of_obj p2 HFZ (by simp))).trans p2)⟩),
          fun h => (let ⟨gh, kh, dh, p0, p1, p2⟩ := F13 (Reg.set_ne (by decide) h); ⟨gh, kh, dh, p0, ((Reg.freeze_other (Reg.ne_of_obj p1 HFZ (by simp))).trans p1), (Reg.Byts.freeze p2 _ _)⟩),
          fun h => (let ⟨vh, zh, p0, p1⟩ := F14 (Reg.set_ne (by decide) h); ⟨vh, zh, p0, (Reg.Byts.freeze p1 _ _)⟩),
          fun h => F15 (Reg.set_ne (by decide) h)⟩
    · have tn := (Reg.turn hi).1
      have z := F4 (Reg.dep hi (by kernel_rfl)) tn
      obtain ⟨g4, rfl, e4_1⟩ := z
      refine wpOp_step rfl ?_
      intro K' hK
      clear hi
      go_simp
      refine hK _ _ ⟨(u2), (u3), (u4), (u14), (u15), (u16), (u17), (u18), (.slice (some ⟨g4, 0, none⟩) 1 1), (.agg #[.int .i64 0, .int .i64 3, .slice (some ⟨g4, 0, none⟩) 1 1]), (u21), (u22), (u23), (u24), (u25), (by kernel_rfl), HB, GX, GKB, fun h hn => F0 (Reg.set_ne (by decide) h) (fun h' => hn (Reg.no_set h' (by rw [hN]; decide))),
          fun h hn => F1 (Reg.set_ne (by decide) h) (fun h' => hn (Reg.no_set h' (by rw [hN]; decide))),
          fun h hn => F2 (Reg.set_ne (by decide) h) (fun h' => hn (Reg.no_set h' (by rw [hN]; decide))),
          fun h hn => F3 (Reg.set_ne (by decide) h) (fun h' => hn (Reg.no_set h' (by rw [hN]; decide))),
          fun _ h => (h (Reg.set_self (by rw [hN]; decide))).elim,
          fun _ _ => ⟨_, rfl, e4_1⟩,
          fun h hn => F6 (Reg.set_ne (by decide) h) (fun h' => hn (Reg.no_set h' (by rw [hN]; decide))),
          fun h hn => F7 (Reg.set_ne (by decide) h) (fun h' => hn (Reg.no_set h' (by rw [hN]; decide))),
          fun h => F8 (Reg.set_ne (by decide) h),
          fun h hn => F9 (Reg.set_ne (by decide) h) (fun h' => hn (Reg.no_set h' (by rw [hN]; decide))),
          fun h hn => F10 (Reg.set_ne (by decide) h) (fun h' => hn (Reg.no_set h' (by rw [hN]; decide))),
          fun h hn => F11 (Reg.set_ne (by decide) h) (fun h' => hn (Reg.no_set h' (by rw [hN]; decide))),
          fun h hn => F12 (Reg.set_ne (by decide) h) (fun h' => hn (Reg.no_set h' (by rw [hN]; decide))),
          fun h => F13 (Reg.set_ne (by decide) h),
          fun h => F14 (Reg.set_ne (by decide) h),
          fun h => F15 (Reg.set_ne (by decide) h)⟩
    · have tn := (Reg.turn hi).1
      have z := F2 (Reg.dep hi (by kernel_rfl)) tn
      obtain ⟨g2, rfl, e2_1⟩ := z
      have z := F5 (Reg.dep hi (by kernel_rfl)) tn
      obtain ⟨g5, rfl, e5_1⟩ := z
      refine wpOp_step rfl ?_
      intro K' hK
      clear hi
      go_simp
      refine (HS1.out W _ _ (Reg.byts_lit e2_1 (by decide)) (Reg.byts_lit e5_1 (by decide))).mono ?_
      rintro e W2 ⟨va, vc, rfl, ho, HST⟩
      refine hK _ _ ⟨(u2), (u3), (u4), (u14), (u15), (u16), (.slice (some ⟨g2, 0, none⟩) 1 1), (u18), (u19), (.agg #[.int .i64 0, .int .i64 3, .slice (some ⟨g5, 0, none⟩) 1 1]), (.slice va 27 vc), (u22), (u23), (u24), (u25), (by kernel_rfl), (kept_trans HB HST), (blk GX HST), (GKB.below HST), fun h hn => F0 (Reg.set_ne (by decide) h) (fun h' => hn (Reg.no_set h' (by rw [hN]; decide))),
          fun h hn => (let ⟨g1, p0, p1, p2⟩ := F1 (Reg.set_ne (by decide) h) (fun h' => hn (Reg.no_set h' (by rw [hN]; decide))); ⟨g1, p0, p1, (blk p2 HST)⟩),
          fun _ h => (h (Reg.set_self (by rw [hN]; decide))).elim,
          fun h hn => (let ⟨g3, p0, p1, p2⟩ := F3 (Reg.set_ne (by decide) h) (fun h' => hn (Reg.no_set h' (by rw [hN]; decide))); ⟨g3, p0, p1, (blk p2 HST)⟩),
          fun h hn => (let ⟨g4, p0, p1⟩ := F4 (Reg.set_ne (by decide) h) (fun h' => hn (Reg.no_set h' (by rw [hN]; decide))); ⟨g4, p0, (blk p1 HST)⟩),
          fun _ h => (h (Reg.set_self (by rw [hN]; decide))).elim,
          fun _ _ => ⟨va, vc, rfl, byts_own (by rw [HL1.out]; exact ho) H81.out⟩,
          fun h hn => (let ⟨kh, dh, vh, zh, p0, p1, p2⟩ := F7 (Reg.set_ne (by decide) h) (fun h' => hn (Reg.no_set h' (by rw [hN]; decide))); ⟨kh, dh, vh, zh, p0, (p1.below HST), (p2.below HST)⟩),
          fun h => (let ⟨kh, dh, vh, zh, p0, p1, p2⟩ := F8 (Reg.set_ne (by decide) h); ⟨kh, dh, vh, zh, p0, (p1.below HST), (p2.below HST)⟩),
          fun h hn => (let ⟨kh, dh, p0, p1⟩ := F9 (Reg.set_ne (by decide) h) (fun h' => hn (Reg.no_set h' (by rw [hN]; decide))); ⟨kh, dh, p0, (p1.below HST)⟩),
          fun h hn => (let ⟨vh, zh, p0, p1⟩ := F10 (Reg.set_ne (by decide) h) (fun h' => hn (Reg.no_set h' (by rw [hN]; decide))); ⟨vh, zh, p0, (p1.below HST)⟩),
          fun h hn => F11 (Reg.set_ne (by decide) h) (fun h' => hn (Reg.no_set h' (by rw [hN]; decide))),
          fun h hn => (let ⟨gh, p0, p1, p2⟩ := F12 (Reg.set_ne (by decide) h) (fun h' => hn (Reg.no_set h' (by rw [hN]; decide))); ⟨gh, p0, p1, (blk p2 HST)⟩),
          fun h => (let ⟨gh, kh, dh, p0, p1, p2⟩ := F13 (Reg.set_ne (by decide) h); ⟨gh, kh, dh, p0, (blk p1 HST), (p2.below HST)⟩),
          fun h => (let ⟨vh, zh, p0, p1⟩ := F14 (Reg.set_ne (by decide) h); ⟨vh, zh, p0, (p1.below HST)⟩),
          fun h => F15 (Reg.set_ne (by decide) h)⟩
    · have tn := (Reg.turn hi).1
      obtain rfl := F0 (Reg.dep hi (by kernel_rfl)) tn
      have z := F6 (Reg.dep hi (by kernel_rfl)) tn
      obtain ⟨va, vc, rfl, e6_1⟩ := z
      refine wpOp_step rfl ?_
      intro K' hK
      clear hi
      go_simp
      refine (HC1.out W _ _ _ _ GKB e6_1).mono ?_
      rintro e W2 ⟨kh, dh, vh, zh, rfl, hkb, ho, HST⟩
      refine hK _ _ ⟨(u2), (u3), (u4), (u14), (.agg #[.slice (some ⟨w.heap.size, 0, none⟩) 1 1, .int .i64 0, .int .i64 0, .int .u64 0, .string ⟨#[]⟩, .int .i64 0]), (u16), (u17), (u18), (u19), (u20), (.slice va 27 vc), (.tuple #[.agg #[.slice kh 1 dh, .int .i64 0, .int .i64 3, .int .u64 1, .string ⟨#[120]⟩, .int .i64 3], .slice vh 1 zh, .nilIface]), (u23), (u24), (u25), (by kernel_rfl), (kept_trans HB HST), (blk GX HST), (GKB.below HST), fun _ h => (h (Reg.set_self (by rw [hN]; decide))).elim,
          fun h hn => (let ⟨g1, p0, p1, p2⟩ := F1 (Reg.set_ne (by decide) h) (fun h' => hn (Reg.no_set h' (by rw [hN]; decide))); ⟨g1, p0, p1, (blk p2 HST)⟩),
          fun h hn => (let ⟨g2, p0, p1⟩ := F2 (Reg.set_ne (by decide) h) (fun h' => hn (Reg.no_set h' (by rw [hN]; decide))); ⟨g2, p0, (blk p1 HST)⟩),
          fun h hn => (let ⟨g3, p0, p1, p2⟩ := F3 (Reg.set_ne (by decide) h) (fun h' => hn (Reg.no_set h' (by rw [hN]; decide))); ⟨g3, p0, p1, (blk p2 HST)⟩),
          fun h hn => (let ⟨g4, p0, p1⟩ := F4 (Reg.set_ne (by decide) h) (fun h' => hn (Reg.no_set h' (by rw [hN]; decide))); ⟨g4, p0, (blk p1 HST)⟩),
          fun h hn => (let ⟨g5, p0, p1⟩ := F5 (Reg.set_ne (by decide) h) (fun h' => hn (Reg.no_set h' (by rw [hN]; decide))); ⟨g5, p0, (blk p1 HST)⟩),
          fun _ h => (h (Reg.set_self (by rw [hN]; decide))).elim,
          fun _ _ => ⟨_, _, _, _, rfl, hkb, byts_own ho (by decide)⟩,
          fun h => (let ⟨kh, dh, vh, zh, p0, p1, p2⟩ := F8 (Reg.set_ne (by decide) h); ⟨kh, dh, vh, zh, p0, (p1.below HST), (p2.below HST)⟩),
          fun h hn => (let ⟨kh, dh, p0, p1⟩ := F9 (Reg.set_ne (by decide) h) (fun h' => hn (Reg.no_set h' (by rw [hN]; decide))); ⟨kh, dh, p0, (p1.below HST)⟩),
          fun h hn => (let ⟨vh, zh, p0, p1⟩ := F10 (Reg.set_ne (by decide) h) (fun h' => hn (Reg.no_set h' (by rw [hN]; decide))); ⟨vh, zh, p0, (p1.below HST)⟩),
          fun h hn => F11 (Reg.set_ne (by decide) h) (fun h' => hn (Reg.no_set h' (by rw [hN]; decide))),
          fun h hn => (let ⟨gh, p0, p1, p2⟩ := F12 (Reg.set_ne (by decide) h) (fun h' => hn (Reg.no_set h' (by rw [hN]; decide))); ⟨gh, p0, p1, (blk p2 HST)⟩),
          fun h => (let ⟨gh, kh, dh, p0, p1, p2⟩ := F13 (Reg.set_ne (by decide) h); ⟨gh, kh, dh, p0, (blk p1 HST), (p2.below HST)⟩),
          fun h => (let ⟨vh, zh, p0, p1⟩ := F14 (Reg.set_ne (by decide) h); ⟨vh, zh, p0, (p1.below HST)⟩),
          fun h => F15 (Reg.set_ne (by decide) h)⟩
    · have tn := (Reg.turn hi).1
      have z := F7 (Reg.dep hi (by kernel_rfl)) tn
      obtain ⟨kh, dh, vh, zh, rfl, e7_1, e7_2⟩ := z
      refine wpOp_step rfl ?_
      intro K' hK
      clear hi
      go_simp
      refine hK _ _ ⟨(u2), (u3), (u4), (.tuple #[.agg #[.slice kh 1 dh, .int .i64 0, .int .i64 3, .int .u64 1, .string ⟨#[120]⟩, .int .i64 3], .slice vh 1 zh, .nilIface]), (u15), (u16), (u17), (u18), (u19), (u20), (u21), (.tuple #[.agg #[.slice kh 1 dh, .int .i64 0, .int .i64 3, .int .u64 1, .string ⟨#[120]⟩, .int .i64 3], .slice vh 1 zh, .nilIface]), (u23), (u24), (u25), (by kernel_rfl), HB, GX, GKB, fun h hn => F0 (Reg.set_ne (by decide) h) (fun h' => hn (Reg.no_set h' (by rw [hN]; decide))),
          fun h hn => F1 (Reg.set_ne (by decide) h) (fun h' => hn (Reg.no_set h' (by rw [hN]; decide))),
          fun h hn => F2 (Reg.set_ne (by decide) h) (fun h' => hn (Reg.no_set h' (by rw [hN]; decide))),
          fun h hn => F3 (Reg.set_ne (by decide) h) (fun h' => hn (Reg.no_set h' (by rw [hN]; decide))),
          fun h hn => F4 (Reg.set_ne (by decide) h) (fun h' => hn (Reg.no_set h' (by rw [hN]; decide))),
          fun h hn => F5 (Reg.set_ne (by decide) h) (fun h' => hn (Reg.no_set h' (by rw [hN]; decide))),
          fun h hn => F6 (Reg.set_ne (by decide) h) (fun h' => hn (Reg.no_set h' (by rw [hN]; decide))),
          fun _ h => (h (Reg.set_self (by rw [hN]; decide))).elim,
          fun _ => ⟨_, _, _, _, rfl, e7_1, e7_2⟩,
          fun h hn => F9 (Reg.set_ne (by decide) h) (fun h' => hn (Reg.no_set h' (by rw [hN]; decide))),
          fun h hn => F10 (Reg.set_ne (by decide) h) (fun h' => hn (Reg.no_set h' (by rw [hN]; decide))),
          fun h hn => F11 (Reg.set_ne (by decide) h) (fun h' => hn (Reg.no_set h' (by rw [hN]; decide))),
          fun h hn => F12 (Reg.set_ne (by decide) h) (fun h' => hn (Reg.no_set h' (by rw [hN]; decide))),
          fun h => F13 (Reg.set_ne (by decide) h),
          fun h => F14 (Reg.set_ne (by decide) h),
          fun h => F15 (Reg.set_ne (by decide) h)⟩
    · have tn := (Reg.turn hi).1
      have z := F8 (Reg.dep hi (by kernel_rfl))
      obtain ⟨kh, dh, vh, zh, rfl, e8_1, e8_2⟩ := z
      refine wpOp_step rfl ?_
      intro K' hK
      clear hi
      go_simp
      refine hK _ _ ⟨(u2), (u3), (u4), (.tuple #[.agg #[.slice kh 1 dh, .int .i64 0, .int .i64 3, .int .u64 1, .string ⟨#[120]⟩, .int .i64 3], .slice vh 1 zh, .nilIface]), (u15), (u16), (u17), (u18), (u19), (u20), (u21), (u22), (.agg #[.slice kh 1 dh, .int .i64 0, .int .i64 3, .int .u64 1, .string ⟨#[120]⟩, .int .i64 3]), (u24), (u25), (by kernel_rfl), HB, GX, GKB, fun h hn => F0 (Reg.set_ne (by decide) h) (fun h' => hn (Reg.no_set h' (by rw [hN]; decide))),
          fun h hn => F1 (Reg.set_ne (by decide) h) (fun h' => hn (Reg.no_set h' (by rw [hN]; decide))),
          fun h hn => F2 (Reg.set_ne (by decide) h) (fun h' => hn (Reg.no_set h' (by rw [hN]; decide))),
          fun h hn => F3 (Reg.set_ne (by decide) h) (fun h' => hn (Reg.no_set h' (by rw [hN]; decide))),
          fun h hn => F4 (Reg.set_ne (by decide) h) (fun h' => hn (Reg.no_set h' (by rw [hN]; decide))),
          fun h hn => F5 (Reg.set_ne (by decide) h) (fun h' => hn (Reg.no_set h' (by rw [hN]; decide))),
          fun h hn => F6 (Reg.set_ne (by decide) h) (fun h' => hn (Reg.no_set h' (by rw [hN]; decide))),
          fun h hn => F7 (Reg.set_ne (by decide) h) (fun h' => hn (Reg.no_set h' (by rw [hN]; decide))),
          fun h => F8 (Reg.set_ne (by decide) h),
          fun _ _ => ⟨_, _, rfl, e8_1⟩,
          fun h hn => F10 (Reg.set_ne (by decide) h) (fun h' => hn (Reg.no_set h' (by rw [hN]; decide))),
          fun h hn => F11 (Reg.set_ne (by decide) h) (fun h' => hn (Reg.no_set h' (by rw [hN]; decide))),
          fun h hn => F12 (Reg.set_ne (by decide) h) (fun h' => hn (Reg.no_set h' (by rw [hN]; decide))),
          fun h => F13 (Reg.set_ne (by decide) h),
          fun h => F14 (Reg.set_ne (by decide) h),
          fun h => F15 (Reg.set_ne (by decide) h)⟩
    · have tn := (Reg.turn hi).1
      have z := F8 (Reg.dep hi (by kernel_rfl))
      obtain ⟨kh, dh, vh, zh, rfl, e8_1, e8_2⟩ := z
      refine wpOp_step rfl ?_
      intro K' hK
      clear hi
      go_simp
      refine hK _ _ ⟨(u2), (u3), (u4), (.tuple #[.agg #[.slice kh 1 dh, .int .i64 0, .int .i64 3, .int .u64 1, .string ⟨#[120]⟩, .int .i64 3], .slice vh 1 zh, .nilIface]), (u15), (u16), (u17), (u18), (u19), (u20), (u21), (u22), (u23), (.slice vh 1 zh), (u25), (by kernel_rfl), HB, GX, GKB, fun h hn => F0 (Reg.set_ne (by decide) h) (fun h' => hn (Reg.no_set h' (by rw [hN]; decide))),
          fun h hn => F1 (Reg.set_ne (by decide) h) (fun h' => hn (Reg.no_set h' (by rw [hN]; decide))),
          fun h hn => F2 (Reg.set_ne (by decide) h) (fun h' => hn (Reg.no_set h' (by rw [hN]; decide))),
          fun h hn => F3 (Reg.set_ne (by decide) h) (fun h' => hn (Reg.no_set h' (by rw [hN]; decide))),
          fun h hn => F4 (Reg.set_ne (by decide) h) (fun h' => hn (Reg.no_set h' (by rw [hN]; decide))),
          fun h hn => F5 (Reg.set_ne (by decide) h) (fun h' => hn (Reg.no_set h' (by rw [hN]; decide))),
          fun h hn => F6 (Reg.set_ne (by decide) h) (fun h' => hn (Reg.no_set h' (by rw [hN]; decide))),
          fun h hn => F7 (Reg.set_ne (by decide) h) (fun h' => hn (Reg.no_set h' (by rw [hN]; decide))),
          fun h => F8 (Reg.set_ne (by decide) h),
          fun h hn => F9 (Reg.set_ne (by decide) h) (fun h' => hn (Reg.no_set h' (by rw [hN]; decide))),
          fun _ _ => ⟨_, _, rfl, e8_2⟩,
          fun h hn => F11 (Reg.set_ne (by decide) h) (fun h' => hn (Reg.no_set h' (by rw [hN]; decide))),
          fun h hn => F12 (Reg.set_ne (by decide) h) (fun h' => hn (Reg.no_set h' (by rw [hN]; decide))),
          fun h => F13 (Reg.set_ne (by decide) h),
          fun h => F14 (Reg.set_ne (by decide) h),
          fun h => F15 (Reg.set_ne (by decide) h)⟩
    · have tn := (Reg.turn hi).1
      have z := F8 (Reg.dep hi (by kernel_rfl))
      obtain ⟨kh, dh, vh, zh, rfl, e8_1, e8_2⟩ := z
      refine wpOp_step rfl ?_
      intro K' hK
      clear hi
      go_simp
      refine hK _ _ ⟨(u2), (u3), (u4), (.tuple #[.agg #[.slice kh 1 dh, .int .i64 0, .int .i64 3, .int .u64 1, .string ⟨#[120]⟩, .int .i64 3], .slice vh 1 zh, .nilIface]), (u15), (u16), (u17), (u18), (u19), (u20), (u21), (u22), (u23), (u24), (.nilIface), (by kernel_rfl), HB, GX, GKB, fun h hn => F0 (Reg.set_ne (by decide) h) (fun h' => hn (Reg.no_set h' (by rw [hN]; decide))),
          fun h hn => F1 (Reg.set_ne (by decide) h) (fun h' => hn (Reg.no_set h' (by rw [hN]; decide))),
          fun h hn => F2 (Reg.set_ne (by decide) h) (fun h' => hn (Reg.no_set h' (by rw [hN]; decide))),
          fun h hn => F3 (Reg.set_ne (by decide) h) (fun h' => hn (Reg.no_set h' (by rw [hN]; decide))),
          fun h hn => F4 (Reg.set_ne (by decide) h) (fun h' => hn (Reg.no_set h' (by rw [hN]; decide))),
          fun h hn => F5 (Reg.set_ne (by decide) h) (fun h' => hn (Reg.no_set h' (by rw [hN]; decide))),
          fun h hn => F6 (Reg.set_ne (by decide) h) (fun h' => hn (Reg.no_set h' (by rw [hN]; decide))),
          fun h hn => F7 (Reg.set_ne (by decide) h) (fun h' => hn (Reg.no_set h' (by rw [hN]; decide))),
          fun h => F8 (Reg.set_ne (by decide) h),
          fun h hn => F9 (Reg.set_ne (by decide) h) (fun h' => hn (Reg.no_set h' (by rw [hN]; decide))),
          fun h hn => F10 (Reg.set_ne (by decide) h) (fun h' => hn (Reg.no_set h' (by rw [hN]; decide))),
          fun _ _ => rfl,
          fun h hn => F12 (Reg.set_ne (by decide) h) (fun h' => hn (Reg.no_set h' (by rw [hN]; decide))),
          fun h => F13 (Reg.set_ne (by decide) h),
          fun h => F14 (Reg.set_ne (by decide) h),
          fun h => F15 (Reg.set_ne (by decide) h)⟩
    · have tn := (Reg.turn hi).1
      refine wpOp_step rfl ?_
      intro K' hK
      clear hi
      have HST := al_any W (.cells #[.slice none 0 0, .int .i64 0, .int .i64 0, .int .u64 0, .string ⟨#[]⟩, .int .i64 0] 31)
      go_simp
      refine hK _ _ ⟨(.pointer (some ⟨W.heap.size, 0, none⟩)), (u3), (u4), (u14), (u15), (u16), (u17), (u18), (u19), (u20), (u21), (u22), (u23), (u24), (u25), (by kernel_rfl), (kept_trans HB HST), (blk GX HST), (GKB.below HST), fun h hn => F0 (Reg.set_ne (by decide) h) (fun h' => hn (Reg.no_set h' (by rw [hN]; decide))),
          fun h hn => (let ⟨g1, p0, p1, p2⟩ := F1 (Reg.set_ne (by decide) h) (fun h' => hn (Reg.no_set h' (by rw [hN]; decide))); ⟨g1, p0, p1, (blk p2 HST)⟩),
          fun h hn => (let ⟨g2, p0, p1⟩ := F2 (Reg.set_ne (by decide) h) (fun h' => hn (Reg.no_set h' (by rw [hN]; decide))); ⟨g2, p0, (blk p1 HST)⟩),
          fun h hn => (let ⟨g3, p0, p1, p2⟩ := F3 (Reg.set_ne (by decide) h) (fun h' => hn (Reg.no_set h' (by rw [hN]; decide))); ⟨g3, p0, p1, (blk p2 HST)⟩),
          fun h hn => (let ⟨g4, p0, p1⟩ := F4 (Reg.set_ne (by decide) h) (fun h' => hn (Reg.no_set h' (by rw [hN]; decide))); ⟨g4, p0, (blk p1 HST)⟩),
          fun h hn => (let ⟨g5, p0, p1⟩ := F5 (Reg.set_ne (by decide) h) (fun h' => hn (Reg.no_set h' (by rw [hN]; decide))); ⟨g5, p0, (blk p1 HST)⟩),
          fun h hn => (let ⟨va, vc, p0, p1⟩ := F6 (Reg.set_ne (by decide) h) (fun h' => hn (Reg.no_set h' (by rw [hN]; decide))); ⟨va, vc, p0, (p1.below HST)⟩),
          fun h hn => (let ⟨kh, dh, vh, zh, p0, p1, p2⟩ := F7 (Reg.set_ne (by decide) h) (fun h' => hn (Reg.no_set h' (by rw [hN]; decide))); ⟨kh, dh, vh, zh, p0, (p1.below HST), (p2.below HST)⟩),
          fun h => (let ⟨kh, dh, vh, zh, p0, p1, p2⟩ := F8 (Reg.set_ne (by decide) h); ⟨kh, dh, vh, zh, p0, (p1.below HST), (p2.below HST)⟩),
          fun h hn => (let ⟨kh, dh, p0, p1⟩ := F9 (Reg.set_ne (by decide) h) (fun h' => hn (Reg.no_set h' (by rw [hN]; decide))); ⟨kh, dh, p0, (p1.below HST)⟩),
          fun h hn => (let ⟨vh, zh, p0, p1⟩ := F10 (Reg.set_ne (by decide) h) (fun h' => hn (Reg.no_set h' (by rw [hN]; decide))); ⟨vh, zh, p0, (p1.below HST)⟩),
          fun h hn => F11 (Reg.set_ne (by decide) h) (fun h' => hn (Reg.no_set h' (by rw [hN]; decide))),
          fun _ _ => ⟨_, rfl, HB.size, heap_alloc_new _ _⟩,
          fun h => (tn (hD 13 12 (Reg.set_ne (by decide) h) (by kernel_rfl))).elim,
          fun h => (let ⟨vh, zh, p0, p1⟩ := F14 (Reg.set_ne (by decide) h); ⟨vh, zh, p0, (p1.below HST)⟩),
          fun h => F15 (Reg.set_ne (by decide) h)⟩
    · have tn := (Reg.turn hi).1
      have z := F9 (Reg.dep hi (by kernel_rfl)) tn
      obtain ⟨kh, dh, rfl, e9_1⟩ := z
      have z := F12 (Reg.dep hi (by kernel_rfl)) tn
      obtain ⟨gh, rfl, e12_1, e12_2⟩ := z
      refine wpOp_step rfl ?_
      intro K' hK
      clear hi
      have HGB := e12_2
      have HNO := Reg.no_u8 HGB (by simp)
      have SF := over6 W _ 31 _ _ _ _ _ _ (.slice kh 1 dh) (.int .i64 0) (.int .i64 3) (.int .u64 1) (.string ⟨#[120]⟩) (.int .i64 3) HGB
      have HST := SF.2
      obtain ⟨y0, y1, y2, y3, y4, y5⟩ := cells6 HGB
      obtain ⟨f0, f1, f2, f3, f4, f5⟩ := free6 HGB
      go_simp
      clear y0 y1 y2 y3 y4 y5 f0 f1 f2 f3 f4 f5
      refine hK _ _ ⟨(.pointer (some ⟨gh, 0, none⟩)), (u3), (u4), (u14), (u15), (u16), (u17), (u18), (u19), (u20), (u21), (u22), (.agg #[.slice kh 1 dh, .int .i64 0, .int .i64 3, .int .u64 1, .string ⟨#[120]⟩, .int .i64 3]), (u24), (u25), (by kernel_rfl), (HB.grown HST HB.size (by intro q hq; injection hq with hq; omega)), ((HST.block _ (there_lt GX) (by intro hq; injection hq with hq; exact Reg.ne_of_obj GX HGB (by simp) hq)).trans GX), (Reg.byts_grown HST HNO GKB), fun h hn => F0 (Reg.set_ne (by decide) h) (fun h' => hn (Reg.no_set h' (by rw [hN]; decide))),
          fun h hn => (let ⟨g1, p0, p1, p2⟩ := F1 (Reg.set_ne (by decide) h) (fun h' => hn (Reg.no_set h' (by rw [hN]; decide))); ⟨g1, p0, p1, ((HST.block _ (there_lt p2) (by intro hq; injection hq with hq; exact Reg.ne_of_obj p2 HGB (by simp) hq)).trans p2)⟩),
          fun h hn => (let ⟨g2, p0, p1⟩ := F2 (Reg.set_ne (by decide) h) (fun h' => hn (Reg.no_set h' (by rw [hN]; decide))); ⟨g2, p0, ((HST.block _ (there_lt p1) (by intro hq; injection hq with hq; exact Reg.ne_of_obj p1 HGB (by simp) hq)).trans p1)⟩),
          fun h hn => (let ⟨g3, p0, p1, p2⟩ := F3 (Reg.set_ne (by decide) h) (fun h' => hn (Reg.no_set h' (by rw [hN]; decide))); ⟨g3, p0, p1, ((HST.block _ (there_lt p2) (by intro hq; injection hq with hq; exact Reg.ne_of_obj p2 HGB (by simp) hq)).trans p2)⟩),
          fun h hn => (let ⟨g4, p0, p1⟩ := F4 (Reg.set_ne (by decide) h) (fun h' => hn (Reg.no_set h' (by rw [hN]; decide))); ⟨g4, p0, ((HST.block _ (there_lt p1) (by intro hq; injection hq with hq; exact Reg.ne_of_obj p1 HGB (by simp) hq)).trans p1)⟩),
          fun h hn => (let ⟨g5, p0, p1⟩ := F5 (Reg.set_ne (by decide) h) (fun h' => hn (Reg.no_set h' (by rw [hN]; decide))); ⟨g5, p0, ((HST.block _ (there_lt p1) (by intro hq; injection hq with hq; exact Reg.ne_of_obj p1 HGB (by simp) hq)).trans p1)⟩),
          fun h hn => (let ⟨va, vc, p0, p1⟩ := F6 (Reg.set_ne (by decide) h) (fun h' => hn (Reg.no_set h' (by rw [hN]; decide))); ⟨va, vc, p0, (Reg.byts_grown HST HNO p1)⟩),
          fun h hn => (let ⟨kh, dh, vh, zh, p0, p1, p2⟩ := F7 (Reg.set_ne (by decide) h) (fun h' => hn (Reg.no_set h' (by rw [hN]; decide))); ⟨kh, dh, vh, zh, p0, (Reg.byts_grown HST HNO p1), (Reg.byts_grown HST HNO p2)⟩),
          fun h => (let ⟨kh, dh, vh, zh, p0, p1, p2⟩ := F8 (Reg.set_ne (by decide) h); ⟨kh, dh, vh, zh, p0, (Reg.byts_grown HST HNO p1), (Reg.byts_grown HST HNO p2)⟩),
          fun _ h => (h (Reg.set_self (by rw [hN]; decide))).elim,
          fun h hn => (let ⟨vh, zh, p0, p1⟩ := F10 (Reg.set_ne (by decide) h) (fun h' => hn (Reg.no_set h' (by rw [hN]; decide))); ⟨vh, zh, p0, (Reg.byts_grown HST HNO p1)⟩),
          fun h hn => F11 (Reg.set_ne (by decide) h) (fun h' => hn (Reg.no_set h' (by rw [hN]; decide))),
          fun _ h => (h (Reg.set_self (by rw [hN]; decide))).elim,
          fun _ => ⟨_, _, _, rfl, SF.1, Reg.byts_grown HST HNO e9_1⟩,
          fun h => (let ⟨vh, zh, p0, p1⟩ := F14 (Reg.set_ne (by decide) h); ⟨vh, zh, p0, (Reg.byts_grown HST HNO p1)⟩),
          fun h => F15 (Reg.set_ne (by decide) h)⟩
    · have tn := (Reg.turn hi).1
      have z := F10 (Reg.dep hi (by kernel_rfl)) tn
      obtain ⟨vh, zh, rfl, e10_1⟩ := z
      refine wpOp_step rfl ?_
      intro K' hK
      clear hi
      go_simp
      refine hK _ _ ⟨(u2), (.slice vh 1 zh), (u4), (u14), (u15), (u16), (u17), (u18), (u19), (u20), (u21), (u22), (u23), (.slice vh 1 zh), (u25), (by kernel_rfl), HB, GX, GKB, fun h hn => F0 (Reg.set_ne (by decide) h) (fun h' => hn (Reg.no_set h' (by rw [hN]; decide))),
          fun h hn => F1 (Reg.set_ne (by decide) h) (fun h' => hn (Reg.no_set h' (by rw [hN]; decide))),
          fun h hn => F2 (Reg.set_ne (by decide) h) (fun h' => hn (Reg.no_set h' (by rw [hN]; decide))),
          fun h hn => F3 (Reg.set_ne (by decide) h) (fun h' => hn (Reg.no_set h' (by rw [hN]; decide))),
          fun h hn => F4 (Reg.set_ne (by decide) h) (fun h' => hn (Reg.no_set h' (by rw [hN]; decide))),
          fun h hn => F5 (Reg.set_ne (by decide) h) (fun h' => hn (Reg.no_set h' (by rw [hN]; decide))),
          fun h hn => F6 (Reg.set_ne (by decide) h) (fun h' => hn (Reg.no_set h' (by rw [hN]; decide))),
          fun h hn => F7 (Reg.set_ne (by decide) h) (fun h' => hn (Reg.no_set h' (by rw [hN]; decide))),
          fun h => F8 (Reg.set_ne (by decide) h),
          fun h hn => F9 (Reg.set_ne (by decide) h) (fun h' => hn (Reg.no_set h' (by rw [hN]; decide))),
          fun _ h => (h (Reg.set_self (by rw [hN]; decide))).elim,
          fun h hn => F11 (Reg.set_ne (by decide) h) (fun h' => hn (Reg.no_set h' (by rw [hN]; decide))),
          fun h hn => F12 (Reg.set_ne (by decide) h) (fun h' => hn (Reg.no_set h' (by rw [hN]; decide))),
          fun h => F13 (Reg.set_ne (by decide) h),
          fun _ => ⟨_, _, rfl, e10_1⟩,
          fun h => F15 (Reg.set_ne (by decide) h)⟩
    · have tn := (Reg.turn hi).1
      obtain rfl := F11 (Reg.dep hi (by kernel_rfl)) tn
      refine wpOp_step rfl ?_
      intro K' hK
      clear hi
      go_simp
      refine hK _ _ ⟨(u2), (u3), (.nilIface), (u14), (u15), (u16), (u17), (u18), (u19), (u20), (u21), (u22), (u23), (u24), (.nilIface), (by kernel_rfl), HB, GX, GKB, fun h hn => F0 (Reg.set_ne (by decide) h) (fun h' => hn (Reg.no_set h' (by rw [hN]; decide))),
          fun h hn => F1 (Reg.set_ne (by decide) h) (fun h' => hn (Reg.no_set h' (by rw [hN]; decide))),
          fun h hn => F2 (Reg.set_ne (by decide) h) (fun h' => hn (Reg.no_set h' (by rw [hN]; decide))),
          fun h hn => F3 (Reg.set_ne (by decide) h) (fun h' => hn (Reg.no_set h' (by rw [hN]; decide))),
          fun h hn => F4 (Reg.set_ne (by decide) h) (fun h' => hn (Reg.no_set h' (by rw [hN]; decide))),
          fun h hn => F5 (Reg.set_ne (by decide) h) (fun h' => hn (Reg.no_set h' (by rw [hN]; decide))),
          fun h hn => F6 (Reg.set_ne (by decide) h) (fun h' => hn (Reg.no_set h' (by rw [hN]; decide))),
          fun h hn => F7 (Reg.set_ne (by decide) h) (fun h' => hn (Reg.no_set h' (by rw [hN]; decide))),
          fun h => F8 (Reg.set_ne (by decide) h),
          fun h hn => F9 (Reg.set_ne (by decide) h) (fun h' => hn (Reg.no_set h' (by rw [hN]; decide))),
          fun h hn => F10 (Reg.set_ne (by decide) h) (fun h' => hn (Reg.no_set h' (by rw [hN]; decide))),
          fun _ h => (h (Reg.set_self (by rw [hN]; decide))).elim,
          fun h hn => F12 (Reg.set_ne (by decide) h) (fun h' => hn (Reg.no_set h' (by rw [hN]; decide))),
          fun h => F13 (Reg.set_ne (by decide) h),
          fun h => F14 (Reg.set_ne (by decide) h),
          fun _ => rfl⟩
  intro l a W1 hl hJ hr
  obtain ⟨u2, u3, u4, u14, u15, u16, u17, u18, u19, u20, u21, u22, u23, u24, u25, hA, HB, GX, GKB, F0, F1, F2, F3, F4, F5, F6, F7, F8, F9, F10, F11, F12, F13, F14, F15⟩ := hJ
  simp only [Reg.over, List.foldl_cons, List.foldl_nil, List.setIfInBounds_toArray, List.set_cons_zero, List.set_cons_succ] at hA
  subst hA
  have AD := Reg.done hl hr (by kernel_rfl)
  obtain ⟨gh, kh, dh, rfl, Xh, KBh⟩ := F13 (AD 13 (by decide))
  obtain ⟨vh, zh, rfl, BBh⟩ := F14 (AD 14 (by decide))
  obtain rfl := F15 (AD 15 (by decide))
  clear AD hr hl F0 F1 F2 F3 F4 F5 F6 F7 F8 F9 F10 F11 F12 F13 F14 F15
  clear REGB REGGX REGGKB B1 K1 HS1 HC1
  have REGB := Lib.hid HB
  have REGGX := Lib.hid GX
  have REGGKB := Lib.hid GKB
  have REGHX := Lib.hid Xh
  have REGHKB := Lib.hid KBh
  have REGHBB := Lib.hid BBh
  clear HB GX GKB Xh KBh BBh
  go_upto_region 3 with (fail)
  refine Reg.wp_region_inv (by kernel_rfl) (fun A0 l a W => ∃ (u5 u6 u7 u26 u27 u28 u29 u30 u31 u32 u33 u34 u35 : Value), a = Reg.over A0 [(5, u5), (6, u6), (7, u7), (26, u26), (27, u27), (28, u28), (29, u29), (30, u30), (31, u31), (32, u32), (33, u33), (34, u34), (35, u35)] ∧ Below w.heap.size w W ∧ W.heap[w.heap.size + 1]? = some (.cells #[.slice (some ⟨w.heap.size, 0, none⟩) 1 1, .int .i64 0, .int .i64 0, .int .u64 0, .string ⟨#[]⟩, .int .i64 0] 31) ∧ Byts W (some ⟨w.heap.size, 0, none⟩) 1 [107] ∧ W.heap[gh]? = some (.cells #[.slice kh 1 dh, .int .i64 0, .int .i64 3, .int .u64 1, .string ⟨#[120]⟩, .int .i64 3] 31) ∧ Byts W kh dh [107] ∧ Byts W vh zh [98] ∧ (Reg.L l 0 → ¬ Reg.L l 5 → u27 = .agg #[.slice kh 1 dh, .int .i64 0, .int .i64 3, .int .u64 1, .string ⟨#[120]⟩, .int .i64 3]) ∧ (Reg.L l 1 → ¬ Reg.L l 2 → ∃ g1, u28 = .slice (some ⟨g1, 0, none⟩) 1 1 ∧ w.heap.size ≤ g1 ∧ W.heap[g1]? = some (.cells #[.int .u8 107] 5)) ∧ (Reg.L l 2 → ¬ Reg.L l 4 → ∃ g2, u29 = .slice (some ⟨g2, 0, none⟩) 1 1 ∧ W.heap[g2]? = some (.cells #[.int .u8 107] 5 (1, 1 + 1))) ∧ (Reg.L l 3 → ¬ Reg.L l 4 → u30 = .agg #[.int .i64 0, .int .i64 2, .slice none 0 0]) ∧ (Reg.L l 4 → ¬ Reg.L l 5 → ∃ va vc, u31 = .slice va 26 vc ∧ Byts W va vc m2) ∧ (Reg.L l 5 → ¬ Reg.L l 6 → ∃ ki di vi zi, u32 = .tuple #[.agg #[.slice ki 1 di, .int .i64 0, .int .i64 3, .int .u64 3, .string ⟨#[120]⟩, .int .i64 3], .slice vi 0 zi, .nilIface] ∧ Byts W ki di [107]) ∧ (Reg.L l 6 → ∃ ki di vi zi, u26 = .tuple #[.agg #[.slice ki 1 di, .int .i64 0, .int .i64 3, .int .u64 3, .string ⟨#[120]⟩, .int .i64 3], .slice vi 0 zi, .nilIface] ∧ Byts W ki di [107]) ∧ (Reg.L l 7 → ¬ Reg.L l 11 → ∃ ki di, u33 = .agg #[.slice ki 1 di, .int .i64 0, .int .i64 3, .int .u64 3, .string ⟨#[120]⟩, .int .i64 3] ∧ Byts W ki di [107]) ∧ (Reg.L l 8 → ¬ Reg.L l 12 → ∃ vi zi, u34 = .slice vi 0 zi) ∧ (Reg.L l 9 → ¬ Reg.L l 13 → u35 = .nilIface) ∧ (Reg.L l 10 → ¬ Reg.L l 11 → ∃ gi, u5 = .pointer (some ⟨gi, 0, none⟩) ∧ w.heap.size ≤ gi ∧ W.heap[gi]? = some (.cells #[.slice none 0 0, .int .i64 0, .int .i64 0, .int .u64 0, .string ⟨#[]⟩, .int .i64 0] 31)) ∧ (Reg.L l 11 → ∃ gi ki di, u5 = .pointer (some ⟨gi, 0, none⟩) ∧ W.heap[gi]? = some (.cells #[.slice ki 1 di, .int .i64 0, .int .i64 3, .int .u64 3, .string ⟨#[120]⟩, .int .i64 3] 31) ∧ Byts W ki di [107]) ∧ (Reg.L l 12 → ∃ vi zi, u6 = .slice vi 0 zi) ∧ (Reg.L l 13 → u7 = .nilIface)) ?_ ?_ ?_
  · exact ⟨_, _, _, _, _, _, _, _, _, _, _, _, _, (Reg.over_self _ [5, 6, 7, 26, 27, 28, 29, 30, 31, 32, 33, 34, 35]).symm, REGB.out.drew, REGGX.out, REGGKB.out.below (Below.refl _ _).drew, REGHX.out, REGHKB.out.below (Below.refl _ _).drew, REGHBB.out.below (Below.refl _ _).drew, fun h => (Reg.L_none h).elim, fun h => (Reg.L_none h).elim, fun h => (Reg.L_none h).elim, fun h => (Reg.L_none h).elim, fun h => (Reg.L_none h).elim, fun h => (Reg.L_none h).elim, fun h => (Reg.L_none h).elim, fun h => (Reg.L_none h).elim, fun h => (Reg.L_none h).elim, fun h => (Reg.L_none h).elim, fun h => (Reg.L_none h).elim, fun h => (Reg.L_none h).elim, fun h => (Reg.L_none h).elim, fun h => (Reg.L_none h).elim⟩
  · intro l a W i hl hD hJ hi
    obtain ⟨u5, u6, u7, u26, u27, u28, u29, u30, u31, u32, u33, u34, u35, hA, HB, GX, GKB, HX, HKB, HBB, F0, F1, F2, F3, F4, F5, F6, F7, F8, F9, F10, F11, F12, F13⟩ := hJ
    simp only [Reg.over, List.foldl_cons, List.foldl_nil, List.setIfInBounds_toArray, List.set_cons_zero, List.set_cons_succ] at hA
    subst hA
    have hN : l.size = 14 := hl
    have hlt : i < 14 := (Reg.turn hi).2
    have hcs : i = 0 ∨ i = 1 ∨ i = 2 ∨ i = 3 ∨ i = 4 ∨ i = 5 ∨ i = 6 ∨ i = 7 ∨ i = 8 ∨ i = 9 ∨ i = 10 ∨ i = 11 ∨ i = 12 ∨ i = 13 := by omega
    clear hlt
    rcases hcs with rfl | rfl | rfl | rfl | rfl | rfl | rfl | rfl | rfl | rfl | rfl | rfl | rfl | rfl
    · have tn := (Reg.turn hi).1
      refine wpOp_step rfl ?_
      intro K' hK
      clear hi
      obtain ⟨c0, c1, c2, c3, c4, c5⟩ := cells6 HX
      go_simp
      clear c0 c1 c2 c3 c4 c5
      refine hK _ _ ⟨(u5), (u6), (u7), (u26), (.agg #[.slice kh 1 dh, .int .i64 0, .int .i64 3, .int .u64 1, .string ⟨#[120]⟩, .int .i64 3]), (u28), (u29), (u30), (u31), (u32), (u33), (u34), (u35), (by kernel_rfl), HB, GX, GKB, HX, HKB, HBB, fun _ _ => rfl,
          fun h hn => F1 (Reg.set_ne (by decide) h) (fun h' => hn (Reg.no_set h' (by rw [hN]; decide))),
          fun h hn => F2 (Reg.set_ne (by decide) h) (fun h' => hn (Reg.no_set h' (by rw [hN]; decide))),
          fun h hn => F3 (Reg.set_ne (by decide) h) (fun h' => hn (Reg.no_set h' (by rw [hN]; decide))),
          fun h hn => F4 (Reg.set_ne (by decide) h) (fun h' => hn (Reg.no_set h' (by rw [hN]; decide))),
          fun h hn => F5 (Reg.set_ne (by decide) h) (fun h' => hn (Reg.no_set h' (by rw [hN]; decide))),
          fun h => F6 (Reg.set_ne (by decide) h),
          fun h hn => F7 (Reg.set_ne (by decide) h) (fun h' => hn (Reg.no_set h' (by rw [hN]; decide))),
          fun h hn => F8 (Reg.set_ne (by decide) h) (fun h' => hn (Reg.no_set h' (by rw [hN]; decide))),
          fun h hn => F9 (Reg.set_ne (by decide) h) (fun h' => hn (Reg.no_set h' (by rw [hN]; decide))),
          fun h hn => F10 (Reg.set_ne (by decide) h) (fun h' => hn (Reg.no_set h' (by rw [hN]; decide))),
          fun h => F11 (Reg.set_ne (by decide) h),
          fun h => F12 (Reg.set_ne (by decide) h),
          fun h => F13 (Reg.set_ne (by decide) h)⟩
    · have tn := (Reg.turn hi).1
      refine wpOp_step rfl ?_
      intro K' hK
      clear hi
      have HST := al_any W (.cells #[.int .u8 107] 5)
      go_simp
      refine hK _ _ ⟨(u5), (u6), (u7), (u26), (u27), (.slice (some ⟨W.heap.size, 0, none⟩) 1 1), (u29), (u30), (u31), (u32), (u33), (u34), (u35), (by kernel_rfl), (kept_trans HB HST), (blk GX HST), (GKB.below HST), (blk HX HST), (HKB.below HST), (HBB.below HST), fun h hn => F0 (Reg.set_ne (by decide) h) (fun h' => hn (Reg.no_set h' (by rw [hN]; decide))),
          fun _ _ => ⟨_, rfl, HB.size, heap_alloc_new _ _⟩,
          fun h hn => (let ⟨g2, p0, p1⟩ := F2 (Reg.set_ne (by decide) h) (fun h' => hn (Reg.no_set h' (by rw [hN]; decide))); ⟨g2, p0, (blk p1 HST)⟩),
          fun h hn => F3 (Reg.set_ne (by decide) h) (fun h' => hn (Reg.no_set h' (by rw [hN]; decide))),
          fun h hn => (let ⟨va, vc, p0, p1⟩ := F4 (Reg.set_ne (by decide) h) (fun h' => hn (Reg.no_set h' (by rw [hN]; decide))); ⟨va, vc, p0, (p1.below HST)⟩),
          fun h hn => (let ⟨ki, di, vi, zi, p0, p1⟩ := F5 (Reg.set_ne (by decide) h) (fun h' => hn (Reg.no_set h' (by rw [hN]; decide))); ⟨ki, di, vi, zi, p0, (p1.below HST)⟩),
          fun h => (let ⟨ki, di, vi, zi, p0, p1⟩ := F6 (Reg.set_ne (by decide) h); ⟨ki, di, vi, zi, p0, (p1.below HST)⟩),
          fun h hn => (let ⟨ki, di, p0, p1⟩ := F7 (Reg.set_ne (by decide) h) (fun h' => hn (Reg.no_set h' (by rw [hN]; decide))); ⟨ki, di, p0, (p1.below HST)⟩),
          fun h hn => F8 (Reg.set_ne (by decide) h) (fun h' => hn (Reg.no_set h' (by rw [hN]; decide))),
          fun h hn => F9 (Reg.set_ne (by decide) h) (fun h' => hn (Reg.no_set h' (by rw [hN]; decide))),
          fun h hn => (let ⟨gi, p0, p1, p2⟩ := F10 (Reg.set_ne (by decide) h) (fun h' => hn (Reg.no_set h' (by rw [hN]; decide))); ⟨gi, p0, p1, (blk p2 HST)⟩),
          fun h => (let ⟨gi, ki, di, p0, p1, p2⟩ := F11 (Reg.set_ne (by decide) h); ⟨gi, ki, di, p0, (blk p1 HST), (p2.below HST)⟩),
          fun h => F12 (Reg.set_ne (by decide) h),
          fun h => F13 (Reg.set_ne (by decide) h)⟩
    · have tn := (Reg.turn hi).1
      have z := F1 (Reg.dep hi (by kernel_rfl)) tn
      obtain ⟨g1, rfl, e1_1, e1_2⟩ := z
      refine wpOp_step rfl ?_
      intro K' hK
      clear hi
      have HFZ := e1_2
      have hk := Reg.run_conv (P := Tryd.prog) W 22 5 _ 1 1 _ HFZ Tryd.underlying22 Tryd.underlying5
      go_simp
      refine hK _ _ ⟨(u5), (u6), (u7), (u26), (u27), (.slice (some ⟨g1, 0, none⟩) 1 1), (.slice (some ⟨g1, 0, none⟩) 1 1), (u30), (u31), (u32), (u33), (u34), (u35), (by kernel_rfl), (HB.grown (Reg.freeze_grown _ _ _) HB.size (by intro q hq; injection hq with hq; omega)), ((Reg.freeze_other (Reg.ne_of_obj GX HFZ (by simp))).trans GX), (Reg.Byts.freeze GKB _ _), ((Reg.freeze_other (Reg.ne_of_obj HX HFZ (by simp))).trans HX), (Reg.Byts.freeze HKB _ _), (Reg.Byts.freeze HBB _ _), fun h hn => F0 (Reg.set_ne (by decide) h) (fun h' => hn (Reg.no_set h' (by rw [hN]; decide))),
          fun _ h => (h (Reg.set_self (by rw [hN]; decide))).elim,
          fun _ _ => ⟨_, rfl, Reg.freeze_heap HFZ⟩,
          fun h hn => F3 (Reg.set_ne (by decide) h) (fun h' => hn (Reg.no_set h' (by rw [hN]; decide))),
          fun h hn => (let ⟨va, vc, p0, p1⟩ := F4 (Reg.set_ne (by decide) h) (fun h' => hn (Reg.no_set h' (by rw [hN]; decide))); ⟨va, vc, p0, (Reg.Byts.freeze p1 _ _)⟩),
          fun h hn => (let ⟨ki, di, vi, zi, p0, p1⟩ := F5 (Reg.set_ne (by decide) h) (fun h' => hn (Reg.no_set h' (by rw [hN]; decide))); ⟨ki, di, vi, zi, p0, (Reg.Byts.freeze p1 _ _)⟩),
          fun h => (let ⟨ki, di, vi, zi, p0, p1⟩ := F6 (Reg.set_ne (by decide) h); ⟨ki, di, vi, zi, p0, (Reg.Byts.freeze p1 _ _)⟩),
          fun h hn => (let ⟨ki, di, p0, p1⟩ := F7 (Reg.set_ne (by decide) h) (fun h' => hn (Reg.no_set h' (by rw [hN]; decide))); ⟨ki, di, p0, (Reg.Byts.freeze p1 _ _)⟩),
          fun h hn => F8 (Reg.set_ne (by decide) h) (fun h' => hn (Reg.no_set h' (by rw [hN]; decide))),
          fun h hn => F9 (Reg.set_ne (by decide) h) (fun h' => hn (Reg.no_set h' (by rw [hN]; decide))),
          fun h hn => (let ⟨gi, p0, p1, p2⟩ := F10 (Reg.set_ne (by decide) h) (fun h' => hn (Reg.no_set h' (by rw [hN]; decide))); ⟨gi, p0, p1, ((Reg.freeze_other (Reg.ne_of_obj p2 HFZ (by simp))).trans p2)⟩),
          fun h => (let ⟨gi, ki, di, p0, p1, p2⟩ := F11 (Reg.set_ne (by decide) h); ⟨gi, ki, di, p0, ((Reg.freeze_other (Reg.ne_of_obj p1 HFZ (by simp))).trans p1), (Reg.Byts.freeze p2 _ _)⟩),
          fun h => F12 (Reg.set_ne (by decide) h),
          fun h => F13 (Reg.set_ne (by decide) h)⟩
    · have tn := (Reg.turn hi).1
      refine wpOp_step rfl ?_
      intro K' hK
      clear hi
      go_simp
      refine hK _ _ ⟨(u5), (u6), (u7), (u26), (u27), (u28), (u29), (.agg #[.int .i64 0, .int .i64 2, .slice none 0 0]), (u31), (u32), (u33), (u34), (u35), (by kernel_rfl), HB, GX, GKB, HX, HKB, HBB, fun h hn => F0 (Reg.set_ne (by decide) h) (fun h' => hn (Reg.no_set h' (by rw [hN]; decide))),
          fun h hn => F1 (Reg.set_ne (by decide) h) (fun h' => hn (Reg.no_set h' (by rw [hN]; decide))),
          fun h hn => F2 (Reg.set_ne (by decide) h) (fun h' => hn (Reg.no_set h' (by rw [hN]; decide))),
          fun _ _ => rfl,
          fun h hn => F4 (Reg.set_ne (by decide) h) (fun h' => hn (Reg.no_set h' (by rw [hN]; decide))),
          fun h hn => F5 (Reg.set_ne (by decide) h) (fun h' => hn (Reg.no_set h' (by rw [hN]; decide))),
          fun h => F6 (Reg.set_ne (by decide) h),
          fun h hn => F7 (Reg.set_ne (by decide) h) (fun h' => hn (Reg.no_set h' (by rw [hN]; decide))),
          fun h hn => F8 (Reg.set_ne (by decide) h) (fun h' => hn (Reg.no_set h' (by rw [hN]; decide))),
          fun h hn => F9 (Reg.set_ne (by decide) h) (fun h' => hn (Reg.no_set h' (by rw [hN]; decide))),
          fun h hn => F10 (Reg.set_ne (by decide) h) (fun h' => hn (Reg.no_set h' (by rw [hN]; decide))),
          fun h => F11 (Reg.set_ne (by decide) h),
          fun h => F12 (Reg.set_ne (by decide) h),
          fun h => F13 (Reg.set_ne (by decide) h)⟩
    · have tn := (Reg.turn hi).1
      have z := F2 (Reg.dep hi (by kernel_rfl)) tn
      obtain ⟨g2, rfl, e2_1⟩ := z
      obtain rfl := F3 (Reg.dep hi (by kernel_rfl)) tn
      refine wpOp_step rfl ?_
      intro K' hK
      clear hi
      go_simp
      refine (HS2.out W _ (Reg.byts_lit e2_1 (by decide))).mono ?_
      rintro e W2 ⟨va, vc, rfl, ho, HST⟩
      refine hK _ _ ⟨(u5), (u6), (u7), (u26), (u27), (u28), (.slice (some ⟨g2, 0, none⟩) 1 1), (.agg #[.int .i64 0, .int .i64 2, .slice none 0 0]), (.slice va 26 vc), (u32), (u33), (u34), (u35), (by kernel_rfl), (kept_trans HB HST), (blk GX HST), (GKB.below HST), (blk HX HST), (HKB.below HST), (HBB.below HST), fun h hn => F0 (Reg.set_ne (by decide) h) (fun h' => hn (Reg.no_set h' (by rw [hN]; decide))),
          fun h hn => (let ⟨g1, p0, p1, p2⟩ := F1 (Reg.set_ne (by decide) h) (fun h' => hn (Reg.no_set h' (by rw [hN]; decide))); ⟨g1, p0, p1, (blk p2 HST)⟩),
          fun _ h => (h (Reg.set_self (by rw [hN]; decide))).elim,
          fun _ h => (h (Reg.set_self (by rw [hN]; decide))).elim,
          fun _ _ => ⟨va, vc, rfl, byts_own (by rw [HL2.out]; exact ho) H82.out⟩,
          fun h hn => (let ⟨ki, di, vi, zi, p0, p1⟩ := F5 (Reg.set_ne (by decide) h) (fun h' => hn (Reg.no_set h' (by rw [hN]; decide))); ⟨ki, di, vi, zi, p0, (p1.below HST)⟩),
          fun h => (let ⟨ki, di, vi, zi, p0, p1⟩ := F6 (Reg.set_ne (by decide) h); ⟨ki, di, vi, zi, p0, (p1.below HST)⟩),
          fun h hn => (let ⟨ki, di, p0, p1⟩ := F7 (Reg.set_ne (by decide) h) (fun h' => hn (Reg.no_set h' (by rw [hN]; decide))); ⟨ki, di, p0, (p1.below HST)⟩),
          fun h hn => F8 (Reg.set_ne (by decide) h) (fun h' => hn (Reg.no_set h' (by rw [hN]; decide))),
          fun h hn => F9 (Reg.set_ne (by decide) h) (fun h' => hn (Reg.no_set h' (by rw [hN]; decide))),
          fun h hn => (let ⟨gi, p0, p1, p2⟩ := F10 (Reg.set_ne (by decide) h) (fun h' => hn (Reg.no_set h' (by rw [hN]; decide))); ⟨gi, p0, p1, (blk p2 HST)⟩),
          fun h => (let ⟨gi, ki, di, p0, p1, p2⟩ := F11 (Reg.set_ne (by decide) h); ⟨gi, ki, di, p0, (blk p1 HST), (p2.below HST)⟩),
          fun h => F12 (Reg.set_ne (by decide) h),
          fun h => F13 (Reg.set_ne (by decide) h)⟩
    · have tn := (Reg.turn hi).1
      obtain rfl := F0 (Reg.dep hi (by kernel_rfl)) tn
      have z := F4 (Reg.dep hi (by kernel_rfl)) tn
      obtain ⟨va, vc, rfl, e4_1⟩ := z
      refine wpOp_step rfl ?_
      intro K' hK
      clear hi
      go_simp
      refine (HC2.out W _ _ _ _ HKB e4_1).mono ?_
      rintro e W2 ⟨ki, di, vi, zi, rfl, hkb, ho, HST⟩
      refine hK _ _ ⟨(u5), (u6), (u7), (u26), (.agg #[.slice kh 1 dh, .int .i64 0, .int .i64 3, .int .u64 1, .string ⟨#[120]⟩, .int .i64 3]), (u28), (u29), (u30), (.slice va 26 vc), (.tuple #[.agg #[.slice ki 1 di, .int .i64 0, .int .i64 3, .int .u64 3, .string ⟨#[120]⟩, .int .i64 3], .slice vi 0 zi, .nilIface]), (u33), (u34), (u35), (by kernel_rfl), (kept_trans HB HST), (blk GX HST), (GKB.below HST), (blk HX HST), (HKB.below HST), (HBB.below HST), fun _ h => (h (Reg.set_self (by rw [hN]; decide))).elim,
          fun h hn => (let ⟨g1, p0, p1, p2⟩ := F1 (Reg.set_ne (by decide) h) (fun h' => hn (Reg.no_set h' (by rw [hN]; decide))); ⟨g1, p0, p1, (blk p2 HST)⟩),
          fun h hn => (let ⟨g2, p0, p1⟩ := F2 (Reg.set_ne (by decide) h) (fun h' => hn (Reg.no_set h' (by rw [hN]; decide))); ⟨g2, p0, (blk p1 HST)⟩),
          fun h hn => F3 (Reg.set_ne (by decide) h) (fun h' => hn (Reg.no_set h' (by rw [hN]; decide))),
          fun _ h => (h (Reg.set_self (by rw [hN]; decide))).elim,
          fun _ _ => ⟨_, _, _, _, rfl, hkb⟩,
          fun h => (let ⟨ki, di, vi, zi, p0, p1⟩ := F6 (Reg.set_ne (by decide) h); ⟨ki, di, vi, zi, p0, (p1.below HST)⟩),
          fun h hn => (let ⟨ki, di, p0, p1⟩ := F7 (Reg.set_ne (by decide) h) (fun h' => hn (Reg.no_set h' (by rw [hN]; decide))); ⟨ki, di, p0, (p1.below HST)⟩),
          fun h hn => F8 (Reg.set_ne (by decide) h) (fun h' => hn (Reg.no_set h' (by rw [hN]; decide))),
          fun h hn => F9 (Reg.set_ne (by decide) h) (fun h' => hn (Reg.no_set h' (by rw [hN]; decide))),
          fun h hn => (let ⟨gi, p0, p1, p2⟩ := F10 (Reg.set_ne (by decide) h) (fun h' => hn (Reg.no_set h' (by rw [hN]; decide))); ⟨gi, p0, p1, (blk p2 HST)⟩),
          fun h => (let ⟨gi, ki, di, p0, p1, p2⟩ := F11 (Reg.set_ne (by decide) h); ⟨gi, ki, di, p0, (blk p1 HST), (p2.below HST)⟩),
          fun h => F12 (Reg.set_ne (by decide) h),
          fun h => F13 (Reg.set_ne (by decide) h)⟩
    · have tn := (Reg.turn hi).1
      have z := F5 (Reg.dep hi (by kernel_rfl)) tn
      obtain ⟨ki, di, vi, zi, rfl, e5_1⟩ := z
      refine wpOp_step rfl ?_
      intro K' hK
      clear hi
      go_simp
      refine hK _ _ ⟨(u5), (u6), (u7), (.tuple #[.agg #[.slice ki 1 di, .int .i64 0, .int .i64 3, .int .u64 3, .string ⟨#[120]⟩, .int .i64 3], .slice vi 0 zi, .nilIface]), (u27), (u28), (u29), (u30), (u31), (.tuple #[.agg #[.slice ki 1 di, .int .i64 0, .int .i64 3, .int .u64 3, .string ⟨#[120]⟩, .int .i64 3], .slice vi 0 zi, .nilIface]), (u33), (u34), (u35), (by kernel_rfl), HB, GX, GKB, HX, HKB, HBB, fun h hn => F0 (Reg.set_ne (by decide) h) (fun h' => hn (Reg.no_set h' (by rw [hN]; decide))),
          fun h hn => F1 (Reg.set_ne (by decide) h) (fun h' => hn (Reg.no_set h' (by rw [hN]; decide))),
          fun h hn => F2 (Reg.set_ne (by decide) h) (fun h' => hn (Reg.no_set h' (by rw [hN]; decide))),
          fun h hn => F3 (Reg.set_ne (by decide) h) (fun h' => hn (Reg.no_set h' (by rw [hN]; decide))),
          fun h hn => F4 (Reg.set_ne (by decide) h) (fun h' => hn (Reg.no_set h' (by rw [hN]; decide))),
          fun _ h => (h (Reg.set_self (by rw [hN]; decide))).elim,
          fun _ => ⟨_, _, _, _, rfl, e5_1⟩,
          fun h hn => F7 (Reg.set_ne (by decide) h) (fun h' => hn (Reg.no_set h' (by rw [hN]; decide))),
          fun h hn => F8 (Reg.set_ne (by decide) h) (fun h' => hn (Reg.no_set h' (by rw [hN]; decide))),
          fun h hn => F9 (Reg.set_ne (by decide) h) (fun h' => hn (Reg.no_set h' (by rw [hN]; decide))),
          fun h hn => F10 (Reg.set_ne (by decide) h) (fun h' => hn (Reg.no_set h' (by rw [hN]; decide))),
          fun h => F11 (Reg.set_ne (by decide) h),
          fun h => F12 (Reg.set_ne (by decide) h),
          fun h => F13 (Reg.set_ne (by decide) h)⟩
    · have tn := (Reg.turn hi).1
      have z := F6 (Reg.dep hi (by kernel_rfl))
      obtain ⟨ki, di, vi, zi, rfl, e6_1⟩ := z
      refine wpOp_step rfl ?_
      intro K' hK
      clear hi
      go_simp
      refine hK _ _ ⟨(u5), (u6), (u7), (.tuple #[.agg #[.slice ki 1 di, .int .i64 0, .int .i64 3, .int .u64 3, .string ⟨#[120]⟩, .int .i64 3], .slice vi 0 zi, .nilIface]), (u27), (u28), (u29), (u30), (u31), (u32), (.agg #[.slice ki 1 di, .int .i64 0, .int .i64 3, .int .u64 3, .string ⟨#[120]⟩, .int .i64 3]), (u34), (u35), (by kernel_rfl), HB, GX, GKB, HX, HKB, HBB, fun h hn => F0 (Reg.set_ne (by decide) h) (fun h' => hn (Reg.no_set h' (by rw [hN]; decide))),
          fun h hn => F1 (Reg.set_ne (by decide) h) (fun h' => hn (Reg.no_set h' (by rw [hN]; decide))),
          fun h hn => F2 (Reg.set_ne (by decide) h) (fun h' => hn (Reg.no_set h' (by rw [hN]; decide))),
          fun h hn => F3 (Reg.set_ne (by decide) h) (fun h' => hn (Reg.no_set h' (by rw [hN]; decide))),
          fun h hn => F4 (Reg.set_ne (by decide) h) (fun h' => hn (Reg.no_set h' (by rw [hN]; decide))),
          fun h hn => F5 (Reg.set_ne (by decide) h) (fun h' => hn (Reg.no_set h' (by rw [hN]; decide))),
          fun h => F6 (Reg.set_ne (by decide) h),
          fun _ _ => ⟨_, _, rfl, e6_1⟩,
          fun h hn => F8 (Reg.set_ne (by decide) h) (fun h' => hn (Reg.no_set h' (by rw [hN]; decide))),
          fun h hn => F9 (Reg.set_ne (by decide) h) (fun h' => hn (Reg.no_set h' (by rw [hN]; decide))),
          fun h hn => F10 (Reg.set_ne (by decide) h) (fun h' => hn (Reg.no_set h' (by rw [hN]; decide))),
          fun h => F11 (Reg.set_ne (by decide) h),
          fun h => F12 (Reg.set_ne (by decide) h),
          fun h => F13 (Reg.set_ne (by decide) h)⟩
    · have tn := (Reg.turn hi).1
      have z := F6 (Reg.dep hi (by kernel_rfl))
      obtain ⟨ki, di, vi, zi, rfl, e6_1⟩ := z
      refine wpOp_step rfl ?_
      intro K' hK
      clear hi
      go_simp
      refine hK _ _ ⟨(u5), (u6), (u7), (.tuple #[.agg #[.slice ki 1 di, .int .i64 0, .int .i64 3, .int .u64 3, .string ⟨#[120]⟩, .int .i64 3], .slice vi 0 zi, .nilIface]), (u27), (u28), (u29), (u30), (u31), (u32), (u33), (.slice vi 0 zi), (u35), (by kernel_rfl), HB, GX, GKB, HX, HKB, HBB, fun h hn => F0 (Reg.set_ne (by decide) h) (fun h' => hn (Reg.no_set h' (by rw [hN]; decide))),
          fun h hn => F1 (Reg.set_ne (by decide) h) (fun h' => hn (Reg.no_set h' (by rw [hN]; decide))),
          fun h hn => F2 (Reg.set_ne (by decide) h) (fun h' => hn (Reg.no_set h' (by rw [hN]; decide))),
          fun h hn => F3 (Reg.set_ne (by decide) h) (fun h' => hn (Reg.no_set h' (by rw [hN]; decide))),
          fun h hn => F4 (Reg.set_ne (by decide) h) (fun h' => hn (Reg.no_set h' (by rw [hN]; decide))),
          fun h hn => F5 (Reg.set_ne (by decide) h) (fun h' => hn (Reg.no_set h' (by rw [hN]; decide))),
          fun h => F6 (Reg.set_ne (by decide) h),
          fun h hn => F7 (Reg.set_ne (by decide) h) (fun h' => hn (Reg.no_set h' (by rw [hN]; decide))),
          fun _ _ => ⟨_, _, rfl⟩,
          fun h hn => F9 (Reg.set_ne (by decide) h) (fun h' => hn (Reg.no_set h' (by rw [hN]; decide))),
          fun h hn => F10 (Reg.set_ne (by decide) h) (fun h' => hn (Reg.no_set h' (by rw [hN]; decide))),
          fun h => F11 (Reg.set_ne (by decide) h),
          fun h => F12 (Reg.set_ne (by decide) h),
          fun h => F13 (Reg.set_ne (by decide) h)⟩
    · have tn := (Reg.turn hi).1
      have z := F6 (Reg.dep hi (by kernel_rfl))
      obtain ⟨ki, di, vi, zi, rfl, e6_1⟩ := z
      refine wpOp_step rfl ?_
      intro K' hK
      clear hi
      go_simp
      refine hK _ _ ⟨(u5), (u6), (u7), (.tuple #[.agg #[.slice ki 1 di, .int .i64 0, .int .i64 3, .int .u64 3, .string ⟨#[120]⟩, .int .i64 3], .slice vi 0 zi, .nilIface]), (u27), (u28), (u29), (u30), (u31), (u32), (u33), (u34), (.nilIface), (by kernel_rfl), HB, GX, GKB, HX, HKB, HBB, fun h hn => F0 (Reg.set_ne (by decide) h) (fun h' => hn (Reg.no_set h' (by rw [hN]; decide))),
          fun h hn => F1 (Reg.set_ne (by decide) h) (fun h' => hn (Reg.no_set h' (by rw [hN]; decide))),
          fun h hn => F2 (Reg.set_ne (by decide) h) (fun h' => hn (Reg.no_set h' (by rw [hN]; decide))),
          fun h hn => F3 (Reg.set_ne (by decide) h) (fun h' => hn (Reg.no_set h' (by rw [hN]; decide))),
          fun h hn => F4 (Reg.set_ne (by decide) h) (fun h' => hn (Reg.no_set h' (by rw [hN]; decide))),
          fun h hn => F5 (Reg.set_ne (by decide) h) (fun h' => hn (Reg.no_set h' (by rw [hN]; decide))),
          fun h => F6 (Reg.set_ne (by decide) h),
          fun h hn => F7 (Reg.set_ne (by decide) h) (fun h' => hn (Reg.no_set h' (by rw [hN]; decide))),
          fun h hn => F8 (Reg.set_ne (by decide) h) (fun h' => hn (Reg.no_set h' (by rw [hN]; decide))),
          fun _ _ => rfl,
          fun h hn => F10 (Reg.set_ne (by decide) h) (fun h' => hn (Reg.no_set h' (by rw [hN]; decide))),
          fun h => F11 (Reg.set_ne (by decide) h),
          fun h => F12 (Reg.set_ne (by decide) h),
          fun h => F13 (Reg.set_ne (by decide) h)⟩
    · have tn := (Reg.turn hi).1
      refine wpOp_step rfl ?_
      intro K' hK
      clear hi
      have HST := al_any W (.cells #[.slice none 0 0, .int .i64 0, .int .i64 0, .int .u64 0, .string ⟨#[]⟩, .int .i64 0] 31)
      go_simp
      refine hK _ _ ⟨(.pointer (some ⟨W.heap.size, 0, none⟩)), (u6), (u7), (u26), (u27), (u28), (u29), (u30), (u31), (u32), (u33), (u34), (u35), (by kernel_rfl), (kept_trans HB HST), (blk GX HST), (GKB.below HST), (blk HX HST), (HKB.below HST), (HBB.below HST), fun h hn => F0 (Reg.set_ne (by decide) h) (fun h' => hn (Reg.no_set h' (by rw [hN]; decide))),
          fun h hn => (let ⟨g1, p0, p1, p2⟩ := F1 (Reg.set_ne (by decide) h) (fun h' => hn (Reg.no_set h' (by rw [hN]; decide))); ⟨g1, p0, p1, (blk p2 HST)⟩),
          fun h hn => (let ⟨g2, p0, p1⟩ := F2 (Reg.set_ne (by decide) h) (fun h' => hn (Reg.no_set h' (by rw [hN]; decide))); ⟨g2, p0, (blk p1 HST)⟩),
          fun h hn => F3 (Reg.set_ne (by decide) h) (fun h' => hn (Reg.no_set h' (by rw [hN]; decide))),
          fun h hn => (let ⟨va, vc, p0, p1⟩ := F4 (Reg.set_ne (by decide) h) (fun h' => hn (Reg.no_set h' (by rw [hN]; decide))); ⟨va, vc, p0, (p1.below HST)⟩),
          fun h hn => (let ⟨ki, di, vi, zi, p0, p1⟩ := F5 (Reg.set_ne (by decide) h) (fun h' => hn (Reg.no_set h' (by rw [hN]; decide))); ⟨ki, di, vi, zi, p0, (p1.below HST)⟩),
          fun h => (let ⟨ki, di, vi, zi, p0, p1⟩ := F6 (Reg.set_ne (by decide) h); ⟨ki, di, vi, zi, p0, (p1.below HST)⟩),
          fun h hn => (let ⟨ki, di, p0, p1⟩ := F7 (Reg.set_ne (by decide) h) (fun h' => hn (Reg.no_set h' (by rw [hN]; decide))); ⟨ki, di, p0, (p1.below HST)⟩),
          fun h hn => F8 (Reg.set_ne (by decide) h) (fun h' => hn (Reg.no_set h' (by rw [hN]; decide))),
          fun h hn => F9 (Reg.set_ne (by decide) h) (fun h' => hn (Reg.no_set h' (by rw [hN]; decide))),
          fun _ _ => ⟨_, rfl, HB.size, heap_alloc_new _ _⟩,
          fun h => (tn (hD 11 10 (Reg.set_ne (by decide) h) (by kernel_rfl))).elim,
          fun h => F12 (Reg.set_ne (by decide) h),
          fun h => F13 (Reg.set_ne (by decide) h)⟩
    · have tn := (Reg.turn hi).1
      have z := F7 (Reg.dep hi (by kernel_rfl)) tn
      obtain ⟨ki, di, rfl, e7_1⟩ := z
      have z := F10 (Reg.dep hi (by kernel_rfl)) tn
      obtain ⟨gi, rfl, e10_1, e10_2⟩ := z
      refine wpOp_step rfl ?_
      intro K' hK
      clear hi
      have HGB := e10_2
      have HNO := Reg.no_u8 HGB (by simp)
      have SF := over6 W _ 31 _ _ _ _ _ _ (.slice ki 1 di) (.int .i64 0) (.int .i64 3) (.int .u64 3) (.string ⟨#[120]⟩) (.int .i64 3) HGB
      have HST := SF.2
      obtain ⟨y0, y1, y2, y3, y4, y5⟩ := cells6 HGB
      obtain ⟨f0, f1, f2, f3, f4, f5⟩ := free6 HGB
      go_simp
      clear y0 y1 y2 y3 y4 y5 f0 f1 f2 f3 f4 f5
      refine hK _ _ ⟨(.pointer (some ⟨gi, 0, none⟩)), (u6), (u7), (u26), (u27), (u28), (u29), (u30), (u31), (u32), (.agg #[.slice ki 1 di, .int .i64 0, .int .i64 3, .int .u64 3, .string ⟨#[120]⟩, .int .i64 3]), (u34), (u35), (by kernel_rfl), (HB.grown HST HB.size (by intro q hq; injection hq with hq; omega)), ((HST.block _ (there_lt GX) (by intro hq; injection hq with hq; exact Reg.ne_of_obj GX HGB (by simp) hq)).trans GX), (Reg.byts_grown HST HNO GKB), ((HST.block _ (there_lt HX) (by intro hq; injection hq with hq; exact Reg.ne_of_obj HX HGB (by simp) hq)).trans HX), (Reg.byts_grown HST HNO HKB), (Reg.byts_grown HST HNO HBB), fun h hn => F0 (Reg.set_ne (by decide) h) (fun h' => hn (Reg.no_set h' (by rw [hN]; decide))),
          fun h hn => (let ⟨g1, p0, p1, p2⟩ := F1 (Reg.set_ne (by decide) h) (fun h' => hn (Reg.no_set h' (by rw [hN]; decide))); ⟨g1, p0, p1, ((HST.block _ (there_lt p2) (by intro hq; injection hq with hq; exact Reg.ne_of_obj p2 HGB (by simp) hq)).trans p2)⟩),
          fun h hn => (let ⟨g2, p0, p1⟩ := F2 (Reg.set_ne (by decide) h) (fun h' => hn (Reg.no_set h' (by rw [hN]; decide))); ⟨g2, p0, ((HST.block _ (there_lt p1) (by intro hq; injection hq with hq; exact Reg.ne_of_obj p1 HGB (by simp) hq)).trans p1)⟩),
          fun h hn => F3 (Reg.set_ne (by decide) h) (fun h' => hn (Reg.no_set h' (by rw [hN]; decide))),
          fun h hn => (let ⟨va, vc, p0, p1⟩ := F4 (Reg.set_ne (by decide) h) (fun h' => hn (Reg.no_set h' (by rw [hN]; decide))); ⟨va, vc, p0, (Reg.byts_grown HST HNO p1)⟩),
          fun h hn => (let ⟨ki, di, vi, zi, p0, p1⟩ := F5 (Reg.set_ne (by decide) h) (fun h' => hn (Reg.no_set h' (by rw [hN]; decide))); ⟨ki, di, vi, zi, p0, (Reg.byts_grown HST HNO p1)⟩),
          fun h => (let ⟨ki, di, vi, zi, p0, p1⟩ := F6 (Reg.set_ne (by decide) h); ⟨ki, di, vi, zi, p0, (Reg.byts_grown HST HNO p1)⟩),
          fun _ h => (h (Reg.set_self (by rw [hN]; decide))).elim,
          fun h hn => F8 (Reg.set_ne (by decide) h) (fun h' => hn (Reg.no_set h' (by rw [hN]; decide))),
          fun h hn => F9 (Reg.set_ne (by decide) h) (fun h' => hn (Reg.no_set h' (by rw [hN]; decide))),
          fun _ h => (h (Reg.set_self (by rw [hN]; decide))).elim,
          fun _ => ⟨_, _, _, rfl, SF.1, Reg.byts_grown HST HNO e7_1⟩,
          fun h => F12 (Reg.set_ne (by decide) h),
          fun h => F13 (Reg.set_ne (by decide) h)⟩
    · have tn := (Reg.turn hi).1
      have z := F8 (Reg.dep hi (by kernel_rfl)) tn
      obtain ⟨vi, zi, rfl⟩ := z
      refine wpOp_step rfl ?_
      intro K' hK
      clear hi
      go_simp
      refine hK _ _ ⟨(u5), (.slice vi 0 zi), (u7), (u26), (u27), (u28), (u29), (u30), (u31), (u32), (u33), (.slice vi 0 zi), (u35), (by kernel_rfl), HB, GX, GKB, HX, HKB, HBB, fun h hn => F0 (Reg.set_ne (by decide) h) (fun h' => hn (Reg.no_set h' (by rw [hN]; decide))),
          fun h hn => F1 (Reg.set_ne (by decide) h) (fun h' => hn (Reg.no_set h' (by rw [hN]; decide))),
          fun h hn => F2 (Reg.set_ne (by decide) h) (fun h' => hn (Reg.no_set h' (by rw [hN]; decide))),
          fun h hn => F3 (Reg.set_ne (by decide) h) (fun h' => hn (Reg.no_set h' (by rw [hN]; decide))),
          fun h hn => F4 (Reg.set_ne (by decide) h) (fun h' => hn (Reg.no_set h' (by rw [hN]; decide))),
          fun h hn => F5 (Reg.set_ne (by decide) h) (fun h' => hn (Reg.no_set h' (by rw [hN]; decide))),
          fun h => F6 (Reg.set_ne (by decide) h),
          fun h hn => F7 (Reg.set_ne (by decide) h) (fun h' => hn (Reg.no_set h' (by rw [hN]; decide))),
          fun _ h => (h (Reg.set_self (by rw [hN]; decide))).elim,
          fun h hn => F9 (Reg.set_ne (by decide) h) (fun h' => hn (Reg.no_set h' (by rw [hN]; decide))),
          fun h hn => F10 (Reg.set_ne (by decide) h) (fun h' => hn (Reg.no_set h' (by rw [hN]; decide))),
          fun h => F11 (Reg.set_ne (by decide) h),
          fun _ => ⟨_, _, rfl⟩,
          fun h => F13 (Reg.set_ne (by decide) h)⟩
    · have tn := (Reg.turn hi).1
      obtain rfl := F9 (Reg.dep hi (by kernel_rfl)) tn
      refine wpOp_step rfl ?_
      intro K' hK
      clear hi
      go_simp
      refine hK _ _ ⟨(u5), (u6), (.nilIface), (u26), (u27), (u28), (u29), (u30), (u31), (u32), (u33), (u34), (.nilIface), (by kernel_rfl), HB, GX, GKB, HX, HKB, HBB, fun h hn => F0 (Reg.set_ne (by decide) h) (fun h' => hn (Reg.no_set h' (by rw [hN]; decide))),
          fun h hn => F1 (Reg.set_ne (by decide) h) (fun h' => hn (Reg.no_set h' (by rw [hN]; decide))),
          fun h hn => F2 (Reg.set_ne (by decide) h) (fun h' => hn (Reg.no_set h' (by rw [hN]; decide))),
          fun h hn => F3 (Reg.set_ne (by decide) h) (fun h' => hn (Reg.no_set h' (by rw [hN]; decide))),
          fun h hn => F4 (Reg.set_ne (by decide) h) (fun h' => hn (Reg.no_set h' (by rw [hN]; decide))),
          fun h hn => F5 (Reg.set_ne (by decide) h) (fun h' => hn (Reg.no_set h' (by rw [hN]; decide))),
          fun h => F6 (Reg.set_ne (by decide) h),
          fun h hn => F7 (Reg.set_ne (by decide) h) (fun h' => hn (Reg.no_set h' (by rw [hN]; decide))),
          fun h hn => F8 (Reg.set_ne (by decide) h) (fun h' => hn (Reg.no_set h' (by rw [hN]; decide))),
          fun _ h => (h (Reg.set_self (by rw [hN]; decide))).elim,
          fun h hn => F10 (Reg.set_ne (by decide) h) (fun h' => hn (Reg.no_set h' (by rw [hN]; decide))),
          fun h => F11 (Reg.set_ne (by decide) h),
          fun h => F12 (Reg.set_ne (by decide) h),
          fun _ => rfl⟩
  intro l a W2 hl hJ hr
  obtain ⟨u5, u6, u7, u26, u27, u28, u29, u30, u31, u32, u33, u34, u35, hA, HB, GX, GKB, HX, HKB, HBB, F0, F1, F2, F3, F4, F5, F6, F7, F8, F9, F10, F11, F12, F13⟩ := hJ
  simp only [Reg.over, List.foldl_cons, List.foldl_nil, List.setIfInBounds_toArray, List.set_cons_zero, List.set_cons_succ] at hA
  subst hA
  have AD := Reg.done hl hr (by kernel_rfl)
  obtain ⟨gi, ki, di, rfl, Xi, KBi⟩ := F11 (AD 11 (by decide))
  obtain ⟨vi, zi, rfl⟩ := F12 (AD 12 (by decide))
  obtain rfl := F13 (AD 13 (by decide))
  clear AD hr hl F0 F1 F2 F3 F4 F5 F6 F7 F8 F9 F10 F11 F12 F13
  clear REGB REGGX REGGKB REGHX REGHKB REGHBB HS2 HC2
  have REGB := Lib.hid HB
  have REGGX := Lib.hid GX
  have REGGKB := Lib.hid GKB
  have REGHX := Lib.hid HX
  have REGHKB := Lib.hid HKB
  have REGHBB := Lib.hid HBB
  have REGIX := Lib.hid Xi
  have REGIKB := Lib.hid KBi
  clear HB GX GKB HX HKB HBB Xi KBi
  obtain ⟨c0, c1, c2, c3, c4, c5⟩ := cells6 REGIX.out
  have HA := al_any W2 (.cells #[.int .u8 110, .int .u8 111] 5 (2, 2 + 1))
  have BN := Reg.byts_lit2 (heap_alloc_new W2 (.cells #[.int .u8 110, .int .u8 111] 5 (2, 2 + 1))) (by decide) (by decide)
  go_wp2_with fail
  refine (HC3.out _ _ _ _ _ (REGIKB.out.below HA) BN).mono ?_
  rintro e W3 ⟨kj, dj, vj, zj, rfl, _, _, hb⟩
  clear BN
  have hb := kept_trans HA hb
  have HA := al_any W3 (.cells #[.slice kj 1 dj, .int .i64 0, .int .i64 3, .int .u64 3, .string ⟨#[120]⟩, .int .i64 3] 31)
  have hb := kept_trans hb HA
  have REGB := kept_hid REGB hb
  have REGGX := Lib.hid (blk REGGX.out hb)
  have REGGKB := Lib.hid (REGGKB.out.below hb)
  have REGHX := Lib.hid (blk REGHX.out hb)
  have REGHKB := Lib.hid (REGHKB.out.below hb)
  have REGHBB := Lib.hid (REGHBB.out.below hb)
  have REGIX := Lib.hid (blk REGIX.out hb)
  have REGIKB := Lib.hid (REGIKB.out.below hb)
  clear hb HC3 c0 c1 c2 c3 c4 c5 HK kc
  go_upto_region 5 with (fail)
  generalize W3.alloc _ = W4 at *
  have hcv := conv_str REGHBB.out (by decide)
  rw [show strOfNums (([98] : List Nat).map Int.ofNat) = ⟨#[98]⟩ from rfl] at hcv
  simp only [List.length_cons, List.length_nil, Nat.zero_add] at hcv
  have HN1 := Lib.hid fun W => known_any g1 kh dh W
  have HN0 := Lib.hid fun W => known_any g0 (some ⟨w.heap.size, 0, none⟩) 1 W
  simp only [g0, g1, List.length_cons, List.length_nil, Nat.zero_add] at HN1 HN0
  have hpe := fun W => run_sameP ⟨#[120]⟩ 3 W
  obtain ⟨c0, c1, c2, c3, c4, c5⟩ := cells6 REGHX.out
  go_wp2_with fail
  refine (HN1.out _).mono ?_
  rintro e W5 ⟨rfl, hb⟩
  clear c0 c1 c2 c3 c4 c5 hcv
  have REGB := kept_hid REGB hb
  have REGGX := Lib.hid (blk REGGX.out hb)
  have REGIX := Lib.hid (blk REGIX.out hb)
  clear hb REGHX REGHKB REGHBB REGIKB REGGKB
  obtain ⟨c0, c1, c2, c3, c4, c5⟩ := cells6 REGGX.out
  go_wp2_with fail
  refine (HN0.out _).mono ?_
  rintro e W6 ⟨rfl, hb⟩
  clear c0 c1 c2 c3 c4 c5
  have REGB := kept_hid REGB hb
  have REGIX := Lib.hid (blk REGIX.out hb)
  clear hb REGGX
  have HCD := Lib.hid (code_errno 2 W6 (HG.out _ REGB.out))
  obtain ⟨c0, c1, c2, c3, c4, c5⟩ := cells6 REGIX.out
  go_wp2_with fail
  refine HCD.out.mono ?_
  rintro e W7 ⟨rfl, hb⟩
  have REGB := kept_hid REGB hb
  clear hb c0 c1 c2 c3 c4 c5
  go_wp2_with fail
  go_ret
  exact ⟨rfl, REGB.out⟩
end Rom
end Go.Proofs.YtoiidedigbfnaaaDoor
