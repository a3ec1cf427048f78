/- The law RoamNewest. Written by tools/gen_rom.py. -/
import Derived.Test.YtoiidedigbfnaaaDoorRomAwake
import Derived.Test.YtoiidedigbfnaaaDoorRomPlain
import Derived.Test.YtoiidedigbfnaaaDoorBunBase
import Derived.Test.YtoiidedigbfnaaaDoorBunWnp
import Derived.Test.YtoiidedigbfnaaaDoorOpnMail
import Derived.Deep.QuietTactic
import Derived.BigQuiet
import Derived.Deep.Cut
import Derived.Deep.LoopGhost
import Derived.Deep.RegionLaw
import Derived.Deep.RegionHeld3
import Derived.IntWalk
import Derived.Lib.SmallJoins
namespace Go.Proofs.YtoiidedigbfnaaaDoor
open Go.RowKit Sha Six Apd Cut Err Frm
set_option linter.unusedVariables false
set_option linter.unusedSimpArgs false
namespace Rom
theorem bs_no_u8 {w : World} {base S n : Nat} {inn : List Bool} (h : Win.OwnBs w base (.slice (some ⟨S, 0, none⟩) n n) inn) : ∀ i x, w.cell? ⟨S, i, none⟩ ≠ some (.int .u8 x) := by
  unfold Win.OwnBs World.ownsRow at h
  obtain ⟨_, ⟨hv, _⟩ | ⟨g, cap, cur, hv, _, hh, hle, _, hsz, htk⟩⟩ := h
  · cases hv
  · simp only [Value.slice.injEq, Option.some.injEq, Addr.mk.injEq, and_true] at hv
    obtain ⟨rfl, rfl, rfl⟩ := hv
    refine Reg.no_u8 hh fun v hv x e => ?_
    rw [List.take_of_length_le (by rw [Array.length_toList]; omega)] at htk
    rw [htk] at hv
    simp only [Win.bools, List.mem_map] at hv
    obtain ⟨b, _, rfl⟩ := hv
    cases e
theorem byts_one {w : World} {a : Option Addr} {c x : Nat} (h : Byts w a c [x]) : ∃ g o, a = some ⟨g, o, none⟩ ∧ w.cell? ⟨g, o, none⟩ = some (.int .u8 (x : Int)) := by
  obtain ⟨⟨ad, cap, he, hl, hc⟩, h8, hn⟩ := h
  simp only [Value.slice.injEq, true_and] at he
  obtain ⟨rfl, rfl⟩ := he
  rcases hc with hc | ⟨b, o, rfl, hc⟩
  · cases hc
  · exact ⟨b, o, rfl, hc 0 (Nat.zero_lt_one)⟩
theorem run_neqP (a : ByteArray) (q : Int) (w : World) : (binOp BinOp.neq 29 (.agg #[.string a, .int .i64 q]) (.agg #[.string a, .int .i64 q])).run Tryd.prog w = .ok (.bool false) w := by
  rw [run_neq_struct, run_eqP]; simp [Result.andThen]
theorem xor_ne (z : Nat) : z ^^^ 1 ≠ z := fun h => by
  have := congrArg (z ^^^ ·) h
  rw [← Nat.xor_assoc, Nat.xor_self, Nat.zero_xor] at this
  cases this
theorem set_small {l : List Nat} (h : ∀ x ∈ l, x < 256) (p x : Nat) (hx : x < 256) : ∀ y ∈ l.set p x, y < 256 := fun y hy => by
  rcases List.mem_or_eq_of_mem_set hy with h' | h'
  · exact h y h'
  · omega
set_option maxRecDepth 100000 in
set_option maxHeartbeats 8000000 in
theorem newest_core (key : List Nat) (l : List Ml) (ka : Option Addr) (kc : Nat) (la : Option Addr) (lc : Nat) (w : World) (hg : Handle w) (hk : Byts w ka kc key) (hm : Mails w la l) :
    Calls Tryd.prog 3 #[.slice ka key.length kc, .slice la l.length lc] w fun e w' => e = .returned (.bool true) ∧ Below w.heap.size w w' := by
  have HAW := Lib.hid fun W (hb : Below w.heap.size w W) => awake_any W (hand_of hg hb)
  have HK := Lib.hid hk
  have HM := Lib.hid hm
  clear hg hk hm
  go_enter Tryd.func3, Tryd.ntmps3
  go_wp2_with fail
  with_reducible refine (HAW.out _ (Below.refl _ _)).mono ?_
  rintro e w2 ⟨rfl, hb⟩
  have K2 := Lib.hid hb
  clear hb
  by_cases hk : 100 < key.length
  · have hk' : decide ((100 : Int) < (key.length : Int)) = true := by simp; omega
    clear hk
    go_wp2_with fail
    with_reducible refine (HAW.out _ K2.out).mono ?_
    rintro e wq ⟨rfl, hb⟩
    have KE := kept_hid K2 hb
    clear hb
    go_wp2_with fail
    go_ret
    exact ⟨rfl, KE.out⟩
  have hk' : decide ((100 : Int) < (key.length : Int)) = false := by simp; omega
  have HKL := Lib.hid (show key.length ≤ 100 by omega)
  clear hk
  by_cases hl : 40 < l.length
  · have hl' : decide ((40 : Int) < (l.length : Int)) = true := by simp; omega
    clear hl
    go_wp2_with fail
    with_reducible refine (HAW.out _ K2.out).mono ?_
    rintro e wq ⟨rfl, hb⟩
    have KE := kept_hid K2 hb
    clear hb
    go_wp2_with fail
    go_ret
    exact ⟨rfl, KE.out⟩
  have hl' : decide ((40 : Int) < (l.length : Int)) = false := by simp; omega
  have HBL := Lib.hid (show l.length ≤ 40 by omega)
  clear hl HAW
  have HA := al_any w2 (.cells #[.slice ka key.length kc, .int .i64 1, .int .i64 0, .int .u64 0, .string ⟨#[]⟩, .int .i64 0] 31)
  have X3 := Lib.hid (heap_alloc_new w2 (.cells #[.slice ka key.length kc, .int .i64 1, .int .i64 0, .int .u64 0, .string ⟨#[]⟩, .int .i64 0] 31))
  have K3 := kept_hid K2 HA
  have HG2 := Lib.hid K2.out.size
  clear HA K2
  go_upto_region 6 with (fail)
  clear hk' hl'
  generalize w2.heap.size = G at *
  generalize w2.alloc _ = w3 at *
  have HGW := Lib.hid (there_lt X3.out)
  go_wp2_with (at_make; refine wpList_mark ?_)
  refine Lib.hid ?_
  obtain ⟨i0, hi, hz0, hz1, hz2⟩ := info_parts Win.infoB
  refine wpList_make_full _ rfl _ _ 32 rfl w3.heap.size 4 i0 _ 1 Tryd.underlying32 hi hz0 hz1 .i64 .i64 _ _ 65536 rfl rfl rfl rfl ?_ ?_ ?_ ?_
  · rw [hz2]; decide
  · unfold maxLen; decide
  · exact Nat.le_refl _
  intro w4 hown hgr
  have K4 := kept_hid K3 (belowg hgr)
  have X4 := Lib.hid (blk X3.out (belowg hgr))
  have S4 := Lib.hid (show Win.OwnBs w4 w3.heap.size (.slice (some ⟨w3.heap.size, 0, none⟩) 65536 65536) (List.replicate 65536 false) from by
    unfold Win.OwnBs; rw [List.length_replicate, ← Win.made_bools]; exact hown)
  have HS3 := Lib.hid K3.out.size
  clear hown hgr hi hz0 hz1 hz2 i0 X3 K3
  generalize w3.heap.size = S at *
  go_wp2_with fail
  go_loopg [6, 7, 9] (l.length + 1) (fun mm tt ww ii wr => ∃ (q : Nat) (s : Win.W) (inn : List Bool) (who : ByteArray) (kx : Option Addr) (kd : Nat), q ≤ l.length ∧ mm = l.length + 1 - q ∧ ii = .int .i64 (q : Int) ∧ tt = .int .i64 s.top ∧ ww = .string who ∧ Hid (Came s inn) ∧ Hid (inn.length = 65536) ∧ Hid (Win.OwnBs wr S (.slice (some ⟨S, 0, none⟩) 65536 65536) inn) ∧ Hid (wr.heap[G]? = some (.cells #[.slice kx key.length kd, .int .i64 1, .int .i64 s.top, .int .u64 (s.bits : Int), .string who, .int .i64 s.top] 31)) ∧ Hid (Byts wr kx kd key) ∧ Hid (Below w.heap.size w wr))
  case atStart => exact ⟨0, Win.nil, List.replicate 65536 false, ⟨#[]⟩, ka, kc, Nat.zero_le _, rfl, rfl, rfl, rfl, Lib.hid came_nil, Lib.hid List.length_replicate, S4, X4, Lib.hid (HK.out.below K4.out), K4⟩
  case round =>
    obtain ⟨q, s, inn, who, kx, kd, hq, rfl, rfl, rfl, rfl, HCM, HIN, SR, XR, KX, KR⟩ := hrel
    clear S4 X4 K4
    by_cases hlt : q < l.length
    · have HLT := Lib.hid hlt
      have hi0 : (0 : Int) ≤ (q : Int) := by omega
      have hi1 : (q : Int) < (l.length : Int) := by omega
      obtain ⟨lg, lo, rfl, m0, m1, m2⟩ := HM.out.cell q hlt
      have HQ5 := Lib.hid (HM.out.small (l.getD q mlz) (by rw [List.getD_eq_getElem?_getD, List.getElem?_eq_getElem hlt]; exact List.getElem_mem _))
      generalize l.getD q mlz = m at *
      obtain ⟨mq, ms, mf⟩ := m
      simp only at m0 m1 m2 HQ5
      have d0 := (KR.out.cell (p := ⟨lg, lo + q * 3, none⟩) (block_lt_of_cell m0)).trans m0
      have d1 := (KR.out.cell (p := ⟨lg, lo + q * 3 + 1, none⟩) (block_lt_of_cell m1)).trans m1
      have d2 := (KR.out.cell (p := ⟨lg, lo + q * 3 + 2, none⟩) (block_lt_of_cell m2)).trans m2
      have M1 := Lib.hid m1
      clear m0 m1 m2
      clear hlt hq
      obtain ⟨n, hn, hn1, hn2⟩ : ∃ n : Nat, wrap64 (1 + (wrap64 (mq : Int)).tmod 500) = (n : Int) ∧ 1 ≤ n ∧ n ≤ 500 := by
        have := HQ5.out
        refine ⟨1 + mq % 500, ?_, by omega, by omega⟩
        have e1 : wrap64 (mq : Int) = (mq : Int) := by rw [IntWalk.wrap64_in] <;> omega
        have e2 : (mq : Int).tmod 500 = ((mq % 500 : Nat) : Int) := by rw [Int.tmod_eq_emod_of_nonneg (by omega)]; omega
        rw [e1, e2, IntWalk.wrap64_in] <;> omega
      have hq8 : (q : Int) % 256 = (q : Int) := by have := HLT.out; have := HBL.out; omega
      have HQ8 := Lib.hid (show q < 256 by have := HLT.out; have := HBL.out; omega)
      have HN := Lib.hid (show 1 ≤ n ∧ n ≤ 500 from ⟨hn1, hn2⟩)
      have HWR := Lib.hid (show wrong ⟨1, (n : Int), [q]⟩ = 0 from by unfold wrong; rw [if_neg (by simp only; omega), if_neg (by simp)])
      clear hn1 hn2
      go_wp2_with fail
      rw [hn]
      have hb0 := al_any wr (.cells #[.int .u8 (q : Int)] 5)
      have BL := Reg.byts_lit (heap_alloc_new wr (.cells #[.int .u8 (q : Int)] 5)) HQ8.out
      refine (rseal_any ⟨1, (n : Int), [q]⟩ key ka key.length kc (some ⟨wr.heap.size, 0, none⟩) 1 _ (by have := HKL.out; omega) rfl HK.out.small ((HK.out.below KR.out).below hb0).at_ HK.out.nil BL.at_ BL.small BL.nil HWR.out).mono ?_
      rintro e w5 ⟨vb, cb, rfl, ho, hb⟩
      have HSL := Lib.hid (show (seal_ key ⟨1, (n : Int), [q]⟩).length = 27 by rw [seal_len]; rfl)
      have H8 := Lib.hid (seal_small (f := ⟨1, (n : Int), [q]⟩) key (.inr rfl) BL.small)
      have O5 := Lib.hid ho
      have B5 := Lib.hid (kept_trans hb0 hb)
      have LB := Lib.hid (show ∀ x, vb = some x → wr.heap.size ≤ x.block from fun x hx => Nat.le_trans hb0.size (own_blocks ho x hx).1)
      clear ho hb hb0 BL hn
      rw [HSL.out] at O5 ⊢
      generalize hwl : (wr.alloc (.cells #[.int .u8 (q : Int)] 5)).heap.size = b5 at O5
      clear hwl
      have d25 := (B5.out.cell (p := ⟨lg, lo + q * 3 + 2, none⟩) (block_lt_of_cell d2)).trans d2
      cases mf with
      | true =>
        have HFO := Lib.hid fun x => forged_open (k := key) (f := ⟨1, (n : Int), [q]⟩) (dir := 1) (x := x) H8.out
        rw [HSL.out] at HFO
        generalize seal_ key ⟨1, (n : Int), [q]⟩ = sl at *
        obtain ⟨gb, x0, rfl, hgl, c0, f0⟩ := own_at3 O5.out (i := 26) (by decide)
        have hz := byte_lt H8.out (by decide) 26
        have HQ := Lib.hid (own_put (i := 26) (v := sl.getD 26 0 ^^^ 1) O5.out)
        have e9 := u8_xor_nat (sl.getD 26 0) 1 hz (by decide)
        rw [show ((1 : Nat) : Int) = 1 from rfl] at e9
        have hz1 : sl.getD 26 0 ^^^ 1 < 256 := Nat.xor_lt_two_pow (n := 8) hz (by decide)
        have HS8 := Lib.hid (set_small H8.out 26 (sl.getD 26 0 ^^^ 1) hz1)
        have HFF := Lib.hid (HFO.out _ hz1 (xor_ne _))
        have HSN := Lib.hid (show (sl.set 26 (sl.getD 26 0 ^^^ 1)).length = 27 by rw [List.length_set]; exact HSL.out)
        have hgr := gsetCell w5 gb 26 (.int .u8 ((sl.getD 26 0 ^^^ 1 : Nat) : Int))
        have B6 := Lib.hid (B5.out.grown hgr B5.out.size (fun g hg => by injection hg with hg; have := LB.out _ rfl; simp only at this; omega))
        clear H8 HFO HSL hz1 hz hgr
        generalize sl.set 26 (sl.getD 26 0 ^^^ 1) = sl2 at *
        generalize sl.getD 26 0 = z at *
        go_wp2_with fail
        generalize w5.setCell _ _ = w6 at *
        clear O5 B5 c0 f0 e9 d25
        have X6 := Lib.hid (blk XR.out B6.out)
        have d1 := (B6.out.cell (p := ⟨lg, lo + q * 3 + 1, none⟩) (block_lt_of_cell d1)).trans d1
        have HC := Lib.hid fun W (hb : Below w6.heap.size w6 W) => come_any ⟨key, 1, s, who, s.top⟩ ms sl2 kx kd (some ⟨gb, 0, none⟩) cb W ((KX.out.below B6.out).below hb) ((byts_own (by rw [HSN.out]; exact HQ.out) HS8.out).below hb) (by have := HKL.out; show key.length < 1000000; omega) (by have := HSN.out; omega) HCM.out.right ⟨HCM.out.small, by have := HCM.out.low; have := (Win.right_fit HCM.out.right).1; rw [IntWalk.i64_in] <;> simp only <;> omega⟩ rfl
        rw [show come ⟨key, 1, s, who, s.top⟩ ms sl2 = (⟨key, 1, s, who, s.top⟩, [], (open_ key 1 sl2).2) from by unfold come; rw [if_pos HFF.out]] at HC
        simp only [GaveR, errn_pos HFF.out, List.length_nil] at HC
        rw [HSN.out] at HC
        generalize (open_ key 1 sl2).2 = cd at *
        have HB8 := Lib.hid (show ∀ x ∈ ([] : List Nat), x < 256 from nofun)
        have REGB := Lib.hid (Below.refl w6.heap.size w6)
        refine Reg.wp_region_inv (by kernel_rfl) (fun A0 rl ra W => ∃ (u12 u13 u14 u69 u70 u71 u72 u73 u74 u75 u76 u77 u78 u79 u80 : Value), ra = Reg.over A0 [(12, u12), (13, u13), (14, u14), (69, u69), (70, u70), (71, u71), (72, u72), (73, u73), (74, u74), (75, u75), (76, u76), (77, u77), (78, u78), (79, u79), (80, u80)] ∧ Below w6.heap.size w6 W ∧ (Reg.L rl 0 → ¬ Reg.L rl 7 → u70 = .agg #[.slice kx key.length kd, .int .i64 1, .int .i64 s.top, .int .u64 (s.bits : Int), .string who, .int .i64 s.top]) ∧ (Reg.L rl 1 → ¬ Reg.L rl 3 → u71 = .slice (some ⟨lg, lo, none⟩) l.length lc) ∧ (Reg.L rl 2 → ¬ Reg.L rl 3 → u72 = .int .i64 (q : Int)) ∧ (Reg.L rl 3 → ¬ Reg.L rl 4 → u73 = .pointer (some ⟨lg, lo + q * 3, none⟩)) ∧ (Reg.L rl 4 → ¬ Reg.L rl 5 → u74 = .pointer (some ⟨lg, lo + q * 3 + 1, none⟩)) ∧ (Reg.L rl 5 → ¬ Reg.L rl 7 → u75 = .string ms) ∧ (Reg.L rl 6 → ¬ Reg.L rl 7 → u76 = .slice (some ⟨gb, 0, none⟩) 27 cb) ∧ (Reg.L rl 7 → ¬ Reg.L rl 8 → ∃ kh dh vh zh, u77 = .tuple #[.agg #[.slice kh key.length dh, .int .i64 1, .int .i64 s.top, .int .u64 (s.bits : Int), .string who, .int .i64 s.top], .slice vh 0 zh, .iface 56 (.int .i64 (cd : Int))] ∧ Byts W kh dh key ∧ Byts W vh zh []) ∧ (Reg.L rl 8 → ∃ kh dh vh zh, u69 = .tuple #[.agg #[.slice kh key.length dh, .int .i64 1, .int .i64 s.top, .int .u64 (s.bits : Int), .string who, .int .i64 s.top], .slice vh 0 zh, .iface 56 (.int .i64 (cd : Int))] ∧ Byts W kh dh key ∧ Byts W vh zh []) ∧ (Reg.L rl 9 → ¬ Reg.L rl 13 → ∃ kh dh, u78 = .agg #[.slice kh key.length dh, .int .i64 1, .int .i64 s.top, .int .u64 (s.bits : Int), .string who, .int .i64 s.top] ∧ Byts W kh dh key) ∧ (Reg.L rl 10 → ¬ Reg.L rl 14 → ∃ vh zh, u79 = .slice vh 0 zh ∧ Byts W vh zh []) ∧ (Reg.L rl 11 → ¬ Reg.L rl 15 → u80 = .iface 56 (.int .i64 (cd : Int))) ∧ (Reg.L rl 12 → ¬ Reg.L rl 13 → ∃ gh, u12 = .pointer (some ⟨gh, 0, none⟩) ∧ w6.heap.size ≤ gh ∧ W.heap[gh]? = some (.cells #[.slice none 0 0, .int .i64 0, .int .i64 0, .int .u64 0, .string ⟨#[]⟩, .int .i64 0] 31)) ∧ (Reg.L rl 13 → ∃ gh kh dh, u12 = .pointer (some ⟨gh, 0, none⟩) ∧ W.heap[gh]? = some (.cells #[.slice kh key.length dh, .int .i64 1, .int .i64 s.top, .int .u64 (s.bits : Int), .string who, .int .i64 s.top] 31) ∧ Byts W kh dh key ∧ w6.heap.size ≤ gh) ∧ (Reg.L rl 14 → ∃ vh zh, u13 = .slice vh 0 zh ∧ Byts W vh zh []) ∧ (Reg.L rl 15 → u14 = .iface 56 (.int .i64 (cd : Int)))) ?_ ?_ ?_
        · exact ⟨_, _, _, _, _, _, _, _, _, _, _, _, _, _, _, (Reg.over_self _ [12, 13, 14, 69, 70, 71, 72, 73, 74, 75, 76, 77, 78, 79, 80]).symm, REGB.out.drew, fun h => (Reg.L_none h).elim, fun h => (Reg.L_none h).elim, fun h => (Reg.L_none h).elim, fun h => (Reg.L_none h).elim, fun h => (Reg.L_none h).elim, fun h => (Reg.L_none h).elim, fun h => (Reg.L_none h).elim, fun h => (Reg.L_none h).elim, fun h => (Reg.L_none h).elim, fun h => (Reg.L_none h).elim, fun h => (Reg.L_none h).elim, fun h => (Reg.L_none h).elim, fun h => (Reg.L_none h).elim, fun h => (Reg.L_none h).elim, fun h => (Reg.L_none h).elim, fun h => (Reg.L_none h).elim⟩
        · intro rl ra W ri hl hD hJ hi
          obtain ⟨u12, u13, u14, u69, u70, u71, u72, u73, u74, u75, u76, u77, u78, u79, u80, hA, HB, F0, F1, F2, F3, F4, F5, F6, F7, F8, F9, F10, F11, F12, F13, F14, F15⟩ := hJ
          simp only [Reg.over, List.foldl_cons, List.foldl_nil, List.setIfInBounds_toArray, List.set_cons_zero, List.set_cons_succ] at hA
          subst hA
          have hN : rl.size = 16 := hl
          have hlt' : ri < 16 := (Reg.turn hi).2
          have hcs : ri = 0 ∨ ri = 1 ∨ ri = 2 ∨ ri = 3 ∨ ri = 4 ∨ ri = 5 ∨ ri = 6 ∨ ri = 7 ∨ ri = 8 ∨ ri = 9 ∨ ri = 10 ∨ ri = 11 ∨ ri = 12 ∨ ri = 13 ∨ ri = 14 ∨ ri = 15 := by omega
          clear hlt'
          rcases hcs with rfl | rfl | rfl | rfl | rfl | rfl | rfl | rfl | rfl | rfl | rfl | rfl | rfl | rfl | rfl | rfl
          · have tn := (Reg.turn hi).1
            refine wpOp_step rfl ?_
            intro K' hK
            clear hi
            obtain ⟨c0, c1, c2, c3, c4, c5⟩ := cells6 (blk X6.out HB)
            go_simp
            clear c0 c1 c2 c3 c4 c5
            refine hK _ _ ⟨(u12), (u13), (u14), (u69), (.agg #[.slice kx key.length kd, .int .i64 1, .int .i64 s.top, .int .u64 (s.bits : Int), .string who, .int .i64 s.top]), (u71), (u72), (u73), (u74), (u75), (u76), (u77), (u78), (u79), (u80), (by kernel_rfl), HB, fun _ _ => rfl,
                fun h hn => F1 (Reg.set_ne (by decide) h) (fun h' => hn (Reg.no_set h' (by rw [hN]; decide))),
                fun h hn => F2 (Reg.set_ne (by decide) h) (fun h' => hn (Reg.no_set h' (by rw [hN]; decide))),
                fun h hn => F3 (Reg.set_ne (by decide) h) (fun h' => hn (Reg.no_set h' (by rw [hN]; decide))),
                fun h hn => F4 (Reg.set_ne (by decide) h) (fun h' => hn (Reg.no_set h' (by rw [hN]; decide))),
                fun h hn => F5 (Reg.set_ne (by decide) h) (fun h' => hn (Reg.no_set h' (by rw [hN]; decide))),
                fun h hn => F6 (Reg.set_ne (by decide) h) (fun h' => hn (Reg.no_set h' (by rw [hN]; decide))),
                fun h hn => F7 (Reg.set_ne (by decide) h) (fun h' => hn (Reg.no_set h' (by rw [hN]; decide))),
                fun h => F8 (Reg.set_ne (by decide) h),
                fun h hn => F9 (Reg.set_ne (by decide) h) (fun h' => hn (Reg.no_set h' (by rw [hN]; decide))),
                fun h hn => F10 (Reg.set_ne (by decide) h) (fun h' => hn (Reg.no_set h' (by rw [hN]; decide))),
                fun h hn => F11 (Reg.set_ne (by decide) h) (fun h' => hn (Reg.no_set h' (by rw [hN]; decide))),
                fun h hn => F12 (Reg.set_ne (by decide) h) (fun h' => hn (Reg.no_set h' (by rw [hN]; decide))),
                fun h => F13 (Reg.set_ne (by decide) h),
                fun h => F14 (Reg.set_ne (by decide) h),
                fun h => F15 (Reg.set_ne (by decide) h)⟩
          · have tn := (Reg.turn hi).1
            refine wpOp_step rfl ?_
            intro K' hK
            clear hi
            go_simp
            refine hK _ _ ⟨(u12), (u13), (u14), (u69), (u70), (.slice (some ⟨lg, lo, none⟩) l.length lc), (u72), (u73), (u74), (u75), (u76), (u77), (u78), (u79), (u80), (by kernel_rfl), HB, fun h hn => F0 (Reg.set_ne (by decide) h) (fun h' => hn (Reg.no_set h' (by rw [hN]; decide))),
                fun _ _ => rfl,
                fun h hn => F2 (Reg.set_ne (by decide) h) (fun h' => hn (Reg.no_set h' (by rw [hN]; decide))),
                fun h hn => F3 (Reg.set_ne (by decide) h) (fun h' => hn (Reg.no_set h' (by rw [hN]; decide))),
                fun h hn => F4 (Reg.set_ne (by decide) h) (fun h' => hn (Reg.no_set h' (by rw [hN]; decide))),
                fun h hn => F5 (Reg.set_ne (by decide) h) (fun h' => hn (Reg.no_set h' (by rw [hN]; decide))),
                fun h hn => F6 (Reg.set_ne (by decide) h) (fun h' => hn (Reg.no_set h' (by rw [hN]; decide))),
                fun h hn => F7 (Reg.set_ne (by decide) h) (fun h' => hn (Reg.no_set h' (by rw [hN]; decide))),
                fun h => F8 (Reg.set_ne (by decide) h),
                fun h hn => F9 (Reg.set_ne (by decide) h) (fun h' => hn (Reg.no_set h' (by rw [hN]; decide))),
                fun h hn => F10 (Reg.set_ne (by decide) h) (fun h' => hn (Reg.no_set h' (by rw [hN]; decide))),
                fun h hn => F11 (Reg.set_ne (by decide) h) (fun h' => hn (Reg.no_set h' (by rw [hN]; decide))),
                fun h hn => F12 (Reg.set_ne (by decide) h) (fun h' => hn (Reg.no_set h' (by rw [hN]; decide))),
                fun h => F13 (Reg.set_ne (by decide) h),
                fun h => F14 (Reg.set_ne (by decide) h),
                fun h => F15 (Reg.set_ne (by decide) h)⟩
          · have tn := (Reg.turn hi).1
            refine wpOp_step rfl ?_
            intro K' hK
            clear hi
            go_simp
            refine hK _ _ ⟨(u12), (u13), (u14), (u69), (u70), (u71), (.int .i64 (q : Int)), (u73), (u74), (u75), (u76), (u77), (u78), (u79), (u80), (by kernel_rfl), HB, fun h hn => F0 (Reg.set_ne (by decide) h) (fun h' => hn (Reg.no_set h' (by rw [hN]; decide))),
                fun h hn => F1 (Reg.set_ne (by decide) h) (fun h' => hn (Reg.no_set h' (by rw [hN]; decide))),
                fun _ _ => rfl,
                fun h hn => F3 (Reg.set_ne (by decide) h) (fun h' => hn (Reg.no_set h' (by rw [hN]; decide))),
                fun h hn => F4 (Reg.set_ne (by decide) h) (fun h' => hn (Reg.no_set h' (by rw [hN]; decide))),
                fun h hn => F5 (Reg.set_ne (by decide) h) (fun h' => hn (Reg.no_set h' (by rw [hN]; decide))),
                fun h hn => F6 (Reg.set_ne (by decide) h) (fun h' => hn (Reg.no_set h' (by rw [hN]; decide))),
                fun h hn => F7 (Reg.set_ne (by decide) h) (fun h' => hn (Reg.no_set h' (by rw [hN]; decide))),
                fun h => F8 (Reg.set_ne (by decide) h),
                fun h hn => F9 (Reg.set_ne (by decide) h) (fun h' => hn (Reg.no_set h' (by rw [hN]; decide))),
                fun h hn => F10 (Reg.set_ne (by decide) h) (fun h' => hn (Reg.no_set h' (by rw [hN]; decide))),
                fun h hn => F11 (Reg.set_ne (by decide) h) (fun h' => hn (Reg.no_set h' (by rw [hN]; decide))),
                fun h hn => F12 (Reg.set_ne (by decide) h) (fun h' => hn (Reg.no_set h' (by rw [hN]; decide))),
                fun h => F13 (Reg.set_ne (by decide) h),
                fun h => F14 (Reg.set_ne (by decide) h),
                fun h => F15 (Reg.set_ne (by decide) h)⟩
          · have tn := (Reg.turn hi).1
            obtain rfl := F1 (Reg.dep hi (by kernel_rfl)) tn
            obtain rfl := F2 (Reg.dep hi (by kernel_rfl)) tn
            refine wpOp_step rfl ?_
            intro K' hK
            clear hi
            go_simp
            refine hK _ _ ⟨(u12), (u13), (u14), (u69), (u70), (.slice (some ⟨lg, lo, none⟩) l.length lc), (.int .i64 (q : Int)), (.pointer (some ⟨lg, lo + q * 3, none⟩)), (u74), (u75), (u76), (u77), (u78), (u79), (u80), (by kernel_rfl), HB, fun h hn => F0 (Reg.set_ne (by decide) h) (fun h' => hn (Reg.no_set h' (by rw [hN]; decide))),
                fun _ h => (h (Reg.set_self (by rw [hN]; decide))).elim,
                fun _ h => (h (Reg.set_self (by rw [hN]; decide))).elim,
                fun _ _ => rfl,
                fun h hn => F4 (Reg.set_ne (by decide) h) (fun h' => hn (Reg.no_set h' (by rw [hN]; decide))),
                fun h hn => F5 (Reg.set_ne (by decide) h) (fun h' => hn (Reg.no_set h' (by rw [hN]; decide))),
                fun h hn => F6 (Reg.set_ne (by decide) h) (fun h' => hn (Reg.no_set h' (by rw [hN]; decide))),
                fun h hn => F7 (Reg.set_ne (by decide) h) (fun h' => hn (Reg.no_set h' (by rw [hN]; decide))),
                fun h => F8 (Reg.set_ne (by decide) h),
                fun h hn => F9 (Reg.set_ne (by decide) h) (fun h' => hn (Reg.no_set h' (by rw [hN]; decide))),
                fun h hn => F10 (Reg.set_ne (by decide) h) (fun h' => hn (Reg.no_set h' (by rw [hN]; decide))),
                fun h hn => F11 (Reg.set_ne (by decide) h) (fun h' => hn (Reg.no_set h' (by rw [hN]; decide))),
                fun h hn => F12 (Reg.set_ne (by decide) h) (fun h' => hn (Reg.no_set h' (by rw [hN]; decide))),
                fun h => F13 (Reg.set_ne (by decide) h),
                fun h => F14 (Reg.set_ne (by decide) h),
                fun h => F15 (Reg.set_ne (by decide) h)⟩
          · have tn := (Reg.turn hi).1
            obtain rfl := F3 (Reg.dep hi (by kernel_rfl)) tn
            refine wpOp_step rfl ?_
            intro K' hK
            clear hi
            go_simp
            refine hK _ _ ⟨(u12), (u13), (u14), (u69), (u70), (u71), (u72), (.pointer (some ⟨lg, lo + q * 3, none⟩)), (.pointer (some ⟨lg, lo + q * 3 + 1, none⟩)), (u75), (u76), (u77), (u78), (u79), (u80), (by kernel_rfl), HB, fun h hn => F0 (Reg.set_ne (by decide) h) (fun h' => hn (Reg.no_set h' (by rw [hN]; decide))),
                fun h hn => F1 (Reg.set_ne (by decide) h) (fun h' => hn (Reg.no_set h' (by rw [hN]; decide))),
                fun h hn => F2 (Reg.set_ne (by decide) h) (fun h' => hn (Reg.no_set h' (by rw [hN]; decide))),
                fun _ h => (h (Reg.set_self (by rw [hN]; decide))).elim,
                fun _ _ => rfl,
                fun h hn => F5 (Reg.set_ne (by decide) h) (fun h' => hn (Reg.no_set h' (by rw [hN]; decide))),
                fun h hn => F6 (Reg.set_ne (by decide) h) (fun h' => hn (Reg.no_set h' (by rw [hN]; decide))),
                fun h hn => F7 (Reg.set_ne (by decide) h) (fun h' => hn (Reg.no_set h' (by rw [hN]; decide))),
                fun h => F8 (Reg.set_ne (by decide) h),
                fun h hn => F9 (Reg.set_ne (by decide) h) (fun h' => hn (Reg.no_set h' (by rw [hN]; decide))),
                fun h hn => F10 (Reg.set_ne (by decide) h) (fun h' => hn (Reg.no_set h' (by rw [hN]; decide))),
                fun h hn => F11 (Reg.set_ne (by decide) h) (fun h' => hn (Reg.no_set h' (by rw [hN]; decide))),
                fun h hn => F12 (Reg.set_ne (by decide) h) (fun h' => hn (Reg.no_set h' (by rw [hN]; decide))),
                fun h => F13 (Reg.set_ne (by decide) h),
                fun h => F14 (Reg.set_ne (by decide) h),
                fun h => F15 (Reg.set_ne (by decide) h)⟩
          · have tn := (Reg.turn hi).1
            obtain rfl := F4 (Reg.dep hi (by kernel_rfl)) tn
            refine wpOp_step rfl ?_
            intro K' hK
            clear hi
            have cs := (HB.cell (p := ⟨lg, lo + q * 3 + 1, none⟩) (block_lt_of_cell d1)).trans d1
            go_simp
            clear cs
            refine hK _ _ ⟨(u12), (u13), (u14), (u69), (u70), (u71), (u72), (u73), (.pointer (some ⟨lg, lo + q * 3 + 1, none⟩)), (.string ms), (u76), (u77), (u78), (u79), (u80), (by kernel_rfl), HB, fun h hn => F0 (Reg.set_ne (by decide) h) (fun h' => hn (Reg.no_set h' (by rw [hN]; decide))),
                fun h hn => F1 (Reg.set_ne (by decide) h) (fun h' => hn (Reg.no_set h' (by rw [hN]; decide))),
                fun h hn => F2 (Reg.set_ne (by decide) h) (fun h' => hn (Reg.no_set h' (by rw [hN]; decide))),
                fun h hn => F3 (Reg.set_ne (by decide) h) (fun h' => hn (Reg.no_set h' (by rw [hN]; decide))),
                fun _ h => (h (Reg.set_self (by rw [hN]; decide))).elim,
                fun _ _ => rfl,
                fun h hn => F6 (Reg.set_ne (by decide) h) (fun h' => hn (Reg.no_set h' (by rw [hN]; decide))),
                fun h hn => F7 (Reg.set_ne (by decide) h) (fun h' => hn (Reg.no_set h' (by rw [hN]; decide))),
                fun h => F8 (Reg.set_ne (by decide) h),
                fun h hn => F9 (Reg.set_ne (by decide) h) (fun h' => hn (Reg.no_set h' (by rw [hN]; decide))),
                fun h hn => F10 (Reg.set_ne (by decide) h) (fun h' => hn (Reg.no_set h' (by rw [hN]; decide))),
                fun h hn => F11 (Reg.set_ne (by decide) h) (fun h' => hn (Reg.no_set h' (by rw [hN]; decide))),
                fun h hn => F12 (Reg.set_ne (by decide) h) (fun h' => hn (Reg.no_set h' (by rw [hN]; decide))),
                fun h => F13 (Reg.set_ne (by decide) h),
                fun h => F14 (Reg.set_ne (by decide) h),
                fun h => F15 (Reg.set_ne (by decide) h)⟩
          · have tn := (Reg.turn hi).1
            refine wpOp_step rfl ?_
            intro K' hK
            clear hi
            go_simp
            refine hK _ _ ⟨(u12), (u13), (u14), (u69), (u70), (u71), (u72), (u73), (u74), (u75), (.slice (some ⟨gb, 0, none⟩) 27 cb), (u77), (u78), (u79), (u80), (by kernel_rfl), HB, fun h hn => F0 (Reg.set_ne (by decide) h) (fun h' => hn (Reg.no_set h' (by rw [hN]; decide))),
                fun h hn => F1 (Reg.set_ne (by decide) h) (fun h' => hn (Reg.no_set h' (by rw [hN]; decide))),
                fun h hn => F2 (Reg.set_ne (by decide) h) (fun h' => hn (Reg.no_set h' (by rw [hN]; decide))),
                fun h hn => F3 (Reg.set_ne (by decide) h) (fun h' => hn (Reg.no_set h' (by rw [hN]; decide))),
                fun h hn => F4 (Reg.set_ne (by decide) h) (fun h' => hn (Reg.no_set h' (by rw [hN]; decide))),
                fun h hn => F5 (Reg.set_ne (by decide) h) (fun h' => hn (Reg.no_set h' (by rw [hN]; decide))),
                fun _ _ => rfl,
                fun h hn => F7 (Reg.set_ne (by decide) h) (fun h' => hn (Reg.no_set h' (by rw [hN]; decide))),
                fun h => F8 (Reg.set_ne (by decide) h),
                fun h hn => F9 (Reg.set_ne (by decide) h) (fun h' => hn (Reg.no_set h' (by rw [hN]; decide))),
                fun h hn => F10 (Reg.set_ne (by decide) h) (fun h' => hn (Reg.no_set h' (by rw [hN]; decide))),
                fun h hn => F11 (Reg.set_ne (by decide) h) (fun h' => hn (Reg.no_set h' (by rw [hN]; decide))),
                fun h hn => F12 (Reg.set_ne (by decide) h) (fun h' => hn (Reg.no_set h' (by rw [hN]; decide))),
                fun h => F13 (Reg.set_ne (by decide) h),
                fun h => F14 (Reg.set_ne (by decide) h),
                fun h => F15 (Reg.set_ne (by decide) h)⟩
          · have tn := (Reg.turn hi).1
            obtain rfl := F0 (Reg.dep hi (by kernel_rfl)) tn
            obtain rfl := F5 (Reg.dep hi (by kernel_rfl)) tn
            obtain rfl := F6 (Reg.dep hi (by kernel_rfl)) tn
            refine wpOp_step rfl ?_
            intro K' hK
            clear hi
            go_simp
            refine (HC.out W HB).mono ?_
            rintro e W2 ⟨kh, dh, vh, zh, rfl, hkb, ho, HST⟩
            refine hK _ _ ⟨(u12), (u13), (u14), (u69), (.agg #[.slice kx key.length kd, .int .i64 1, .int .i64 s.top, .int .u64 (s.bits : Int), .string who, .int .i64 s.top]), (u71), (u72), (u73), (u74), (.string ms), (.slice (some ⟨gb, 0, none⟩) 27 cb), (.tuple #[.agg #[.slice kh key.length dh, .int .i64 1, .int .i64 s.top, .int .u64 (s.bits : Int), .string who, .int .i64 s.top], .slice vh 0 zh, .iface 56 (.int .i64 (cd : Int))]), (u78), (u79), (u80), (by kernel_rfl), (kept_trans HB HST), fun _ h => (h (Reg.set_self (by rw [hN]; decide))).elim,
                fun h hn => F1 (Reg.set_ne (by decide) h) (fun h' => hn (Reg.no_set h' (by rw [hN]; decide))),
                fun h hn => F2 (Reg.set_ne (by decide) h) (fun h' => hn (Reg.no_set h' (by rw [hN]; decide))),
                fun h hn => F3 (Reg.set_ne (by decide) h) (fun h' => hn (Reg.no_set h' (by rw [hN]; decide))),
                fun h hn => F4 (Reg.set_ne (by decide) h) (fun h' => hn (Reg.no_set h' (by rw [hN]; decide))),
                fun _ h => (h (Reg.set_self (by rw [hN]; decide))).elim,
                fun _ h => (h (Reg.set_self (by rw [hN]; decide))).elim,
                fun _ _ => ⟨_, _, _, _, rfl, hkb, byts_own ho HB8.out⟩,
                fun h => (let ⟨kh, dh, vh, zh, p0, p1, p2⟩ := F8 (Reg.set_ne (by decide) h); ⟨kh, dh, vh, zh, p0, (p1.below HST), (p2.below HST)⟩),
                fun h hn => (let ⟨kh, dh, p0, p1⟩ := F9 (Reg.set_ne (by decide) h) (fun h' => hn (Reg.no_set h' (by rw [hN]; decide))); ⟨kh, dh, p0, (p1.below HST)⟩),
                fun h hn => (let ⟨vh, zh, p0, p1⟩ := F10 (Reg.set_ne (by decide) h) (fun h' => hn (Reg.no_set h' (by rw [hN]; decide))); ⟨vh, zh, p0, (p1.below HST)⟩),
                fun h hn => F11 (Reg.set_ne (by decide) h) (fun h' => hn (Reg.no_set h' (by rw [hN]; decide))),
                fun h hn => (let ⟨gh, p0, p1, p2⟩ := F12 (Reg.set_ne (by decide) h) (fun h' => hn (Reg.no_set h' (by rw [hN]; decide))); ⟨gh, p0, p1, (blk p2 HST)⟩),
                fun h => (let ⟨gh, kh, dh, p0, p1, p2, p3⟩ := F13 (Reg.set_ne (by decide) h); ⟨gh, kh, dh, p0, (blk p1 HST), (p2.below HST), p3⟩),
                fun h => (let ⟨vh, zh, p0, p1⟩ := F14 (Reg.set_ne (by decide) h); ⟨vh, zh, p0, (p1.below HST)⟩),
                fun h => F15 (Reg.set_ne (by decide) h)⟩
          · have tn := (Reg.turn hi).1
            have z := F7 (Reg.dep hi (by kernel_rfl)) tn
            obtain ⟨kh, dh, vh, zh, rfl, e7_1, e7_2⟩ := z
            refine wpOp_step rfl ?_
            intro K' hK
            clear hi
            go_simp
            refine hK _ _ ⟨(u12), (u13), (u14), (.tuple #[.agg #[.slice kh key.length dh, .int .i64 1, .int .i64 s.top, .int .u64 (s.bits : Int), .string who, .int .i64 s.top], .slice vh 0 zh, .iface 56 (.int .i64 (cd : Int))]), (u70), (u71), (u72), (u73), (u74), (u75), (u76), (.tuple #[.agg #[.slice kh key.length dh, .int .i64 1, .int .i64 s.top, .int .u64 (s.bits : Int), .string who, .int .i64 s.top], .slice vh 0 zh, .iface 56 (.int .i64 (cd : Int))]), (u78), (u79), (u80), (by kernel_rfl), HB, fun h hn => F0 (Reg.set_ne (by decide) h) (fun h' => hn (Reg.no_set h' (by rw [hN]; decide))),
                fun h hn => F1 (Reg.set_ne (by decide) h) (fun h' => hn (Reg.no_set h' (by rw [hN]; decide))),
                fun h hn => F2 (Reg.set_ne (by decide) h) (fun h' => hn (Reg.no_set h' (by rw [hN]; decide))),
                fun h hn => F3 (Reg.set_ne (by decide) h) (fun h' => hn (Reg.no_set h' (by rw [hN]; decide))),
                fun h hn => F4 (Reg.set_ne (by decide) h) (fun h' => hn (Reg.no_set h' (by rw [hN]; decide))),
                fun h hn => F5 (Reg.set_ne (by decide) h) (fun h' => hn (Reg.no_set h' (by rw [hN]; decide))),
                fun h hn => F6 (Reg.set_ne (by decide) h) (fun h' => hn (Reg.no_set h' (by rw [hN]; decide))),
                fun _ h => (h (Reg.set_self (by rw [hN]; decide))).elim,
                fun _ => ⟨_, _, _, _, rfl, e7_1, e7_2⟩,
                fun h hn => F9 (Reg.set_ne (by decide) h) (fun h' => hn (Reg.no_set h' (by rw [hN]; decide))),
                fun h hn => F10 (Reg.set_ne (by decide) h) (fun h' => hn (Reg.no_set h' (by rw [hN]; decide))),
                fun h hn => F11 (Reg.set_ne (by decide) h) (fun h' => hn (Reg.no_set h' (by rw [hN]; decide))),
                fun h hn => F12 (Reg.set_ne (by decide) h) (fun h' => hn (Reg.no_set h' (by rw [hN]; decide))),
                fun h => F13 (Reg.set_ne (by decide) h),
                fun h => F14 (Reg.set_ne (by decide) h),
                fun h => F15 (Reg.set_ne (by decide) h)⟩
          · have tn := (Reg.turn hi).1
            have z := F8 (Reg.dep hi (by kernel_rfl))
            obtain ⟨kh, dh, vh, zh, rfl, e8_1, e8_2⟩ := z
            refine wpOp_step rfl ?_
            intro K' hK
            clear hi
            go_simp
            refine hK _ _ ⟨(u12), (u13), (u14), (.tuple #[.agg #[.slice kh key.length dh, .int .i64 1, .int .i64 s.top, .int .u64 (s.bits : Int), .string who, .int .i64 s.top], .slice vh 0 zh, .iface 56 (.int .i64 (cd : Int))]), (u70), (u71), (u72), (u73), (u74), (u75), (u76), (u77), (.agg #[.slice kh key.length dh, .int .i64 1, .int .i64 s.top, .int .u64 (s.bits : Int), .string who, .int .i64 s.top]), (u79), (u80), (by kernel_rfl), HB, fun h hn => F0 (Reg.set_ne (by decide) h) (fun h' => hn (Reg.no_set h' (by rw [hN]; decide))),
                fun h hn => F1 (Reg.set_ne (by decide) h) (fun h' => hn (Reg.no_set h' (by rw [hN]; decide))),
                fun h hn => F2 (Reg.set_ne (by decide) h) (fun h' => hn (Reg.no_set h' (by rw [hN]; decide))),
                fun h hn => F3 (Reg.set_ne (by decide) h) (fun h' => hn (Reg.no_set h' (by rw [hN]; decide))),
                fun h hn => F4 (Reg.set_ne (by decide) h) (fun h' => hn (Reg.no_set h' (by rw [hN]; decide))),
                fun h hn => F5 (Reg.set_ne (by decide) h) (fun h' => hn (Reg.no_set h' (by rw [hN]; decide))),
                fun h hn => F6 (Reg.set_ne (by decide) h) (fun h' => hn (Reg.no_set h' (by rw [hN]; decide))),
                fun h hn => F7 (Reg.set_ne (by decide) h) (fun h' => hn (Reg.no_set h' (by rw [hN]; decide))),
                fun h => F8 (Reg.set_ne (by decide) h),
                fun _ _ => ⟨_, _, rfl, e8_1⟩,
                fun h hn => F10 (Reg.set_ne (by decide) h) (fun h' => hn (Reg.no_set h' (by rw [hN]; decide))),
                fun h hn => F11 (Reg.set_ne (by decide) h) (fun h' => hn (Reg.no_set h' (by rw [hN]; decide))),
                fun h hn => F12 (Reg.set_ne (by decide) h) (fun h' => hn (Reg.no_set h' (by rw [hN]; decide))),
                fun h => F13 (Reg.set_ne (by decide) h),
                fun h => F14 (Reg.set_ne (by decide) h),
                fun h => F15 (Reg.set_ne (by decide) h)⟩
          · have tn := (Reg.turn hi).1
            have z := F8 (Reg.dep hi (by kernel_rfl))
            obtain ⟨kh, dh, vh, zh, rfl, e8_1, e8_2⟩ := z
            refine wpOp_step rfl ?_
            intro K' hK
            clear hi
            go_simp
            refine hK _ _ ⟨(u12), (u13), (u14), (.tuple #[.agg #[.slice kh key.length dh, .int .i64 1, .int .i64 s.top, .int .u64 (s.bits : Int), .string who, .int .i64 s.top], .slice vh 0 zh, .iface 56 (.int .i64 (cd : Int))]), (u70), (u71), (u72), (u73), (u74), (u75), (u76), (u77), (u78), (.slice vh 0 zh), (u80), (by kernel_rfl), HB, fun h hn => F0 (Reg.set_ne (by decide) h) (fun h' => hn (Reg.no_set h' (by rw [hN]; decide))),
                fun h hn => F1 (Reg.set_ne (by decide) h) (fun h' => hn (Reg.no_set h' (by rw [hN]; decide))),
                fun h hn => F2 (Reg.set_ne (by decide) h) (fun h' => hn (Reg.no_set h' (by rw [hN]; decide))),
                fun h hn => F3 (Reg.set_ne (by decide) h) (fun h' => hn (Reg.no_set h' (by rw [hN]; decide))),
                fun h hn => F4 (Reg.set_ne (by decide) h) (fun h' => hn (Reg.no_set h' (by rw [hN]; decide))),
                fun h hn => F5 (Reg.set_ne (by decide) h) (fun h' => hn (Reg.no_set h' (by rw [hN]; decide))),
                fun h hn => F6 (Reg.set_ne (by decide) h) (fun h' => hn (Reg.no_set h' (by rw [hN]; decide))),
                fun h hn => F7 (Reg.set_ne (by decide) h) (fun h' => hn (Reg.no_set h' (by rw [hN]; decide))),
                fun h => F8 (Reg.set_ne (by decide) h),
                fun h hn => F9 (Reg.set_ne (by decide) h) (fun h' => hn (Reg.no_set h' (by rw [hN]; decide))),
                fun _ _ => ⟨_, _, rfl, e8_2⟩,
                fun h hn => F11 (Reg.set_ne (by decide) h) (fun h' => hn (Reg.no_set h' (by rw [hN]; decide))),
                fun h hn => F12 (Reg.set_ne (by decide) h) (fun h' => hn (Reg.no_set h' (by rw [hN]; decide))),
                fun h => F13 (Reg.set_ne (by decide) h),
                fun h => F14 (Reg.set_ne (by decide) h),
                fun h => F15 (Reg.set_ne (by decide) h)⟩
          · have tn := (Reg.turn hi).1
            have z := F8 (Reg.dep hi (by kernel_rfl))
            obtain ⟨kh, dh, vh, zh, rfl, e8_1, e8_2⟩ := z
            refine wpOp_step rfl ?_
            intro K' hK
            clear hi
            go_simp
            refine hK _ _ ⟨(u12), (u13), (u14), (.tuple #[.agg #[.slice kh key.length dh, .int .i64 1, .int .i64 s.top, .int .u64 (s.bits : Int), .string who, .int .i64 s.top], .slice vh 0 zh, .iface 56 (.int .i64 (cd : Int))]), (u70), (u71), (u72), (u73), (u74), (u75), (u76), (u77), (u78), (u79), (.iface 56 (.int .i64 (cd : Int))), (by kernel_rfl), HB, fun h hn => F0 (Reg.set_ne (by decide) h) (fun h' => hn (Reg.no_set h' (by rw [hN]; decide))),
                fun h hn => F1 (Reg.set_ne (by decide) h) (fun h' => hn (Reg.no_set h' (by rw [hN]; decide))),
                fun h hn => F2 (Reg.set_ne (by decide) h) (fun h' => hn (Reg.no_set h' (by rw [hN]; decide))),
                fun h hn => F3 (Reg.set_ne (by decide) h) (fun h' => hn (Reg.no_set h' (by rw [hN]; decide))),
                fun h hn => F4 (Reg.set_ne (by decide) h) (fun h' => hn (Reg.no_set h' (by rw [hN]; decide))),
                fun h hn => F5 (Reg.set_ne (by decide) h) (fun h' => hn (Reg.no_set h' (by rw [hN]; decide))),
                fun h hn => F6 (Reg.set_ne (by decide) h) (fun h' => hn (Reg.no_set h' (by rw [hN]; decide))),
                fun h hn => F7 (Reg.set_ne (by decide) h) (fun h' => hn (Reg.no_set h' (by rw [hN]; decide))),
                fun h => F8 (Reg.set_ne (by decide) h),
                fun h hn => F9 (Reg.set_ne (by decide) h) (fun h' => hn (Reg.no_set h' (by rw [hN]; decide))),
                fun h hn => F10 (Reg.set_ne (by decide) h) (fun h' => hn (Reg.no_set h' (by rw [hN]; decide))),
                fun _ _ => rfl,
                fun h hn => F12 (Reg.set_ne (by decide) h) (fun h' => hn (Reg.no_set h' (by rw [hN]; decide))),
                fun h => F13 (Reg.set_ne (by decide) h),
                fun h => F14 (Reg.set_ne (by decide) h),
                fun h => F15 (Reg.set_ne (by decide) h)⟩
          · have tn := (Reg.turn hi).1
            refine wpOp_step rfl ?_
            intro K' hK
            clear hi
            have HST := al_any W (.cells #[.slice none 0 0, .int .i64 0, .int .i64 0, .int .u64 0, .string ⟨#[]⟩, .int .i64 0] 31)
            go_simp
            refine hK _ _ ⟨(.pointer (some ⟨W.heap.size, 0, none⟩)), (u13), (u14), (u69), (u70), (u71), (u72), (u73), (u74), (u75), (u76), (u77), (u78), (u79), (u80), (by kernel_rfl), (kept_trans HB HST), fun h hn => F0 (Reg.set_ne (by decide) h) (fun h' => hn (Reg.no_set h' (by rw [hN]; decide))),
                fun h hn => F1 (Reg.set_ne (by decide) h) (fun h' => hn (Reg.no_set h' (by rw [hN]; decide))),
                fun h hn => F2 (Reg.set_ne (by decide) h) (fun h' => hn (Reg.no_set h' (by rw [hN]; decide))),
                fun h hn => F3 (Reg.set_ne (by decide) h) (fun h' => hn (Reg.no_set h' (by rw [hN]; decide))),
                fun h hn => F4 (Reg.set_ne (by decide) h) (fun h' => hn (Reg.no_set h' (by rw [hN]; decide))),
                fun h hn => F5 (Reg.set_ne (by decide) h) (fun h' => hn (Reg.no_set h' (by rw [hN]; decide))),
                fun h hn => F6 (Reg.set_ne (by decide) h) (fun h' => hn (Reg.no_set h' (by rw [hN]; decide))),
                fun h hn => (let ⟨kh, dh, vh, zh, p0, p1, p2⟩ := F7 (Reg.set_ne (by decide) h) (fun h' => hn (Reg.no_set h' (by rw [hN]; decide))); ⟨kh, dh, vh, zh, p0, (p1.below HST), (p2.below HST)⟩),
                fun h => (let ⟨kh, dh, vh, zh, p0, p1, p2⟩ := F8 (Reg.set_ne (by decide) h); ⟨kh, dh, vh, zh, p0, (p1.below HST), (p2.below HST)⟩),
                fun h hn => (let ⟨kh, dh, p0, p1⟩ := F9 (Reg.set_ne (by decide) h) (fun h' => hn (Reg.no_set h' (by rw [hN]; decide))); ⟨kh, dh, p0, (p1.below HST)⟩),
                fun h hn => (let ⟨vh, zh, p0, p1⟩ := F10 (Reg.set_ne (by decide) h) (fun h' => hn (Reg.no_set h' (by rw [hN]; decide))); ⟨vh, zh, p0, (p1.below HST)⟩),
                fun h hn => F11 (Reg.set_ne (by decide) h) (fun h' => hn (Reg.no_set h' (by rw [hN]; decide))),
                fun _ _ => ⟨_, rfl, HB.size, heap_alloc_new _ _⟩,
                fun h => (tn (hD 13 12 (Reg.set_ne (by decide) h) (by kernel_rfl))).elim,
                fun h => (let ⟨vh, zh, p0, p1⟩ := F14 (Reg.set_ne (by decide) h); ⟨vh, zh, p0, (p1.below HST)⟩),
                fun h => F15 (Reg.set_ne (by decide) h)⟩
          · have tn := (Reg.turn hi).1
            have z := F9 (Reg.dep hi (by kernel_rfl)) tn
            obtain ⟨kh, dh, rfl, e9_1⟩ := z
            have z := F12 (Reg.dep hi (by kernel_rfl)) tn
            obtain ⟨gh, rfl, e12_1, e12_2⟩ := z
            refine wpOp_step rfl ?_
            intro K' hK
            clear hi
            have HGB := e12_2
            have HNO := Reg.no_u8 HGB (by simp)
            have SF := over6 W _ 31 _ _ _ _ _ _ (.slice kh key.length dh) (.int .i64 1) (.int .i64 s.top) (.int .u64 (s.bits : Int)) (.string who) (.int .i64 s.top) HGB
            have HST := SF.2
            obtain ⟨y0, y1, y2, y3, y4, y5⟩ := cells6 HGB
            obtain ⟨f0, f1, f2, f3, f4, f5⟩ := free6 HGB
            go_simp
            clear y0 y1 y2 y3 y4 y5 f0 f1 f2 f3 f4 f5
            refine hK _ _ ⟨(.pointer (some ⟨gh, 0, none⟩)), (u13), (u14), (u69), (u70), (u71), (u72), (u73), (u74), (u75), (u76), (u77), (.agg #[.slice kh key.length dh, .int .i64 1, .int .i64 s.top, .int .u64 (s.bits : Int), .string who, .int .i64 s.top]), (u79), (u80), (by kernel_rfl), (HB.grown HST HB.size (by intro q hq; injection hq with hq; omega)), fun h hn => F0 (Reg.set_ne (by decide) h) (fun h' => hn (Reg.no_set h' (by rw [hN]; decide))),
                fun h hn => F1 (Reg.set_ne (by decide) h) (fun h' => hn (Reg.no_set h' (by rw [hN]; decide))),
                fun h hn => F2 (Reg.set_ne (by decide) h) (fun h' => hn (Reg.no_set h' (by rw [hN]; decide))),
                fun h hn => F3 (Reg.set_ne (by decide) h) (fun h' => hn (Reg.no_set h' (by rw [hN]; decide))),
                fun h hn => F4 (Reg.set_ne (by decide) h) (fun h' => hn (Reg.no_set h' (by rw [hN]; decide))),
                fun h hn => F5 (Reg.set_ne (by decide) h) (fun h' => hn (Reg.no_set h' (by rw [hN]; decide))),
                fun h hn => F6 (Reg.set_ne (by decide) h) (fun h' => hn (Reg.no_set h' (by rw [hN]; decide))),
                fun h hn => (let ⟨kh, dh, vh, zh, p0, p1, p2⟩ := F7 (Reg.set_ne (by decide) h) (fun h' => hn (Reg.no_set h' (by rw [hN]; decide))); ⟨kh, dh, vh, zh, p0, (Reg.byts_grown HST HNO p1), (Reg.byts_grown HST HNO p2)⟩),
                fun h => (let ⟨kh, dh, vh, zh, p0, p1, p2⟩ := F8 (Reg.set_ne (by decide) h); ⟨kh, dh, vh, zh, p0, (Reg.byts_grown HST HNO p1), (Reg.byts_grown HST HNO p2)⟩),
                fun _ h => (h (Reg.set_self (by rw [hN]; decide))).elim,
                fun h hn => (let ⟨vh, zh, p0, p1⟩ := F10 (Reg.set_ne (by decide) h) (fun h' => hn (Reg.no_set h' (by rw [hN]; decide))); ⟨vh, zh, p0, (Reg.byts_grown HST HNO p1)⟩),
                fun h hn => F11 (Reg.set_ne (by decide) h) (fun h' => hn (Reg.no_set h' (by rw [hN]; decide))),
                fun _ h => (h (Reg.set_self (by rw [hN]; decide))).elim,
                fun _ => ⟨_, _, _, rfl, SF.1, Reg.byts_grown HST HNO e9_1, e12_1⟩,
                fun h => (let ⟨vh, zh, p0, p1⟩ := F14 (Reg.set_ne (by decide) h); ⟨vh, zh, p0, (Reg.byts_grown HST HNO p1)⟩),
                fun h => F15 (Reg.set_ne (by decide) h)⟩
          · have tn := (Reg.turn hi).1
            have z := F10 (Reg.dep hi (by kernel_rfl)) tn
            obtain ⟨vh, zh, rfl, e10_1⟩ := z
            refine wpOp_step rfl ?_
            intro K' hK
            clear hi
            go_simp
            refine hK _ _ ⟨(u12), (.slice vh 0 zh), (u14), (u69), (u70), (u71), (u72), (u73), (u74), (u75), (u76), (u77), (u78), (.slice vh 0 zh), (u80), (by kernel_rfl), HB, fun h hn => F0 (Reg.set_ne (by decide) h) (fun h' => hn (Reg.no_set h' (by rw [hN]; decide))),
                fun h hn => F1 (Reg.set_ne (by decide) h) (fun h' => hn (Reg.no_set h' (by rw [hN]; decide))),
                fun h hn => F2 (Reg.set_ne (by decide) h) (fun h' => hn (Reg.no_set h' (by rw [hN]; decide))),
                fun h hn => F3 (Reg.set_ne (by decide) h) (fun h' => hn (Reg.no_set h' (by rw [hN]; decide))),
                fun h hn => F4 (Reg.set_ne (by decide) h) (fun h' => hn (Reg.no_set h' (by rw [hN]; decide))),
                fun h hn => F5 (Reg.set_ne (by decide) h) (fun h' => hn (Reg.no_set h' (by rw [hN]; decide))),
                fun h hn => F6 (Reg.set_ne (by decide) h) (fun h' => hn (Reg.no_set h' (by rw [hN]; decide))),
                fun h hn => F7 (Reg.set_ne (by decide) h) (fun h' => hn (Reg.no_set h' (by rw [hN]; decide))),
                fun h => F8 (Reg.set_ne (by decide) h),
                fun h hn => F9 (Reg.set_ne (by decide) h) (fun h' => hn (Reg.no_set h' (by rw [hN]; decide))),
                fun _ h => (h (Reg.set_self (by rw [hN]; decide))).elim,
                fun h hn => F11 (Reg.set_ne (by decide) h) (fun h' => hn (Reg.no_set h' (by rw [hN]; decide))),
                fun h hn => F12 (Reg.set_ne (by decide) h) (fun h' => hn (Reg.no_set h' (by rw [hN]; decide))),
                fun h => F13 (Reg.set_ne (by decide) h),
                fun _ => ⟨_, _, rfl, e10_1⟩,
                fun h => F15 (Reg.set_ne (by decide) h)⟩
          · have tn := (Reg.turn hi).1
            obtain rfl := F11 (Reg.dep hi (by kernel_rfl)) tn
            refine wpOp_step rfl ?_
            intro K' hK
            clear hi
            go_simp
            refine hK _ _ ⟨(u12), (u13), (.iface 56 (.int .i64 (cd : Int))), (u69), (u70), (u71), (u72), (u73), (u74), (u75), (u76), (u77), (u78), (u79), (.iface 56 (.int .i64 (cd : Int))), (by kernel_rfl), HB, fun h hn => F0 (Reg.set_ne (by decide) h) (fun h' => hn (Reg.no_set h' (by rw [hN]; decide))),
                fun h hn => F1 (Reg.set_ne (by decide) h) (fun h' => hn (Reg.no_set h' (by rw [hN]; decide))),
                fun h hn => F2 (Reg.set_ne (by decide) h) (fun h' => hn (Reg.no_set h' (by rw [hN]; decide))),
                fun h hn => F3 (Reg.set_ne (by decide) h) (fun h' => hn (Reg.no_set h' (by rw [hN]; decide))),
                fun h hn => F4 (Reg.set_ne (by decide) h) (fun h' => hn (Reg.no_set h' (by rw [hN]; decide))),
                fun h hn => F5 (Reg.set_ne (by decide) h) (fun h' => hn (Reg.no_set h' (by rw [hN]; decide))),
                fun h hn => F6 (Reg.set_ne (by decide) h) (fun h' => hn (Reg.no_set h' (by rw [hN]; decide))),
                fun h hn => F7 (Reg.set_ne (by decide) h) (fun h' => hn (Reg.no_set h' (by rw [hN]; decide))),
                fun h => F8 (Reg.set_ne (by decide) h),
                fun h hn => F9 (Reg.set_ne (by decide) h) (fun h' => hn (Reg.no_set h' (by rw [hN]; decide))),
                fun h hn => F10 (Reg.set_ne (by decide) h) (fun h' => hn (Reg.no_set h' (by rw [hN]; decide))),
                fun _ h => (h (Reg.set_self (by rw [hN]; decide))).elim,
                fun h hn => F12 (Reg.set_ne (by decide) h) (fun h' => hn (Reg.no_set h' (by rw [hN]; decide))),
                fun h => F13 (Reg.set_ne (by decide) h),
                fun h => F14 (Reg.set_ne (by decide) h),
                fun _ => rfl⟩
        intro rl ra w7 hl hJ hr
        obtain ⟨u12, u13, u14, u69, u70, u71, u72, u73, u74, u75, u76, u77, u78, u79, u80, hA, HB, F0, F1, F2, F3, F4, F5, F6, F7, F8, F9, F10, F11, F12, F13, F14, F15⟩ := hJ
        simp only [Reg.over, List.foldl_cons, List.foldl_nil, List.setIfInBounds_toArray, List.set_cons_zero, List.set_cons_succ] at hA
        subst hA
        have AD := Reg.done hl hr (by kernel_rfl)
        obtain ⟨gh, kh, dh, rfl, XH, KH, HGH⟩ := F13 (AD 13 (by decide))
        obtain ⟨vh, zh, rfl, BH⟩ := F14 (AD 14 (by decide))
        obtain rfl := F15 (AD 15 (by decide))
        clear AD hr hl F0 F1 F2 F3 F4 F5 F6 F7 F8 F9 F10 F11 F12 F13 F14 F15
        have BZ := Lib.hid (kept_trans B6.out HB)
        have XG := Lib.hid (blk XR.out BZ.out)
        have HSA := Lib.hid (same_any ⟨key, 1, s, who, s.top⟩ kh dh kx kd w7 KH (KX.out.below BZ.out) (by have := HKL.out; show key.length < 1000000; omega))
        simp only at HSA
        have eii : wrap64 ((q : Int) + 1) = (q : Int) + 1 := by have := HLT.out; have := HBL.out; rw [IntWalk.wrap64_in] <;> omega
        have d2 := (BZ.out.cell (p := ⟨lg, lo + q * 3 + 2, none⟩) (block_lt_of_cell d2)).trans d2
        clear HB d1 B6 HC KH BH
        obtain ⟨c0, c1, c2, c3, c4, c5⟩ := cells6 XH
        obtain ⟨y0, y1, y2, y3, y4, y5⟩ := cells6 XG.out
        go_wp2_with fail
        refine HSA.out.mono ?_
        rintro e w8 ⟨rfl, hb⟩
        have BY := Lib.hid (kept_trans BZ.out hb)
        have d2 := (hb.cell (p := ⟨lg, lo + q * 3 + 2, none⟩) (block_lt_of_cell d2)).trans d2
        clear HSA BZ XG XH hb c0 c1 c2 c3 c4 c5 y0 y1 y2 y3 y4 y5
        go_wp2_with fail
        go_roundg (l.length + 1 - (q + 1))
        case measure => have := HLT.out; omega
        case rel => exact ⟨q + 1, s, inn, who, kx, kd, HLT.out, rfl, by first | exact congrArg (Value.int .i64) eii | rfl | go_num, rfl, rfl, HCM, HIN, Lib.hid (own_below SR.out BY.out), Lib.hid (blk XR.out BY.out), Lib.hid (KX.out.below BY.out), kept_hid KR BY.out⟩
      | false =>
        go_upto_region 14 with (fail)
        clear d25
        have HCR := Lib.hid (show Win.Fit s from ⟨HCM.out.small, by have := HCM.out.low; have := (Win.right_fit HCM.out.right).1; rw [IntWalk.i64_in] <;> omega⟩)
        have HCS := come_sealed (g := ⟨key, 1, s, who, s.top⟩) ms HWR.out rfl
        simp only at HCS
        have HCA := came_cases HCM.out (n := n) HN.out.1 HN.out.2 (by have := HIN.out; have := HN.out.2; omega)
        have HSB := Lib.hid (byts_own (by rw [HSL.out]; exact O5.out) H8.out)
        have X6 := Lib.hid (blk XR.out B5.out)
        have d1 := (B5.out.cell (p := ⟨lg, lo + q * 3 + 1, none⟩) (block_lt_of_cell d1)).trans d1
        have HC := Lib.hid fun W (hb : Below w5.heap.size w5 W) => come_any ⟨key, 1, s, who, s.top⟩ ms (seal_ key ⟨1, (n : Int), [q]⟩) kx kd vb cb W ((KX.out.below B5.out).below hb) (HSB.out.below hb) (by have := HKL.out; show key.length < 1000000; omega) (by have := HSL.out; omega) HCM.out.right HCR.out rfl
        rw [HCS] at HC
        have B6 := B5
        have REGB := Lib.hid (Below.refl w5.heap.size w5)
        generalize seal_ key ⟨1, (n : Int), [q]⟩ = sl at *
        clear HCS O5 B5 HWR HCR
        rcases HCA with ⟨e2, e1, hnt⟩ | ⟨e2, hin, hcm, htp⟩
        · rw [if_pos (show (Win.lets s (n : Int)).2 ≠ 0 by rw [e2]; decide), e2] at HC
          simp only [GaveR, errn_pos (show (12 : Nat) ≠ 0 by decide), List.length_nil] at HC
          rw [HSL.out] at HC
          have HB8 := Lib.hid (show ∀ x ∈ ([] : List Nat), x < 256 from nofun)
          clear e1 e2
          refine Reg.wp_region_inv (by kernel_rfl) (fun A0 rl ra W => ∃ (u12 u13 u14 u69 u70 u71 u72 u73 u74 u75 u76 u77 u78 u79 u80 : Value), ra = Reg.over A0 [(12, u12), (13, u13), (14, u14), (69, u69), (70, u70), (71, u71), (72, u72), (73, u73), (74, u74), (75, u75), (76, u76), (77, u77), (78, u78), (79, u79), (80, u80)] ∧ Below w5.heap.size w5 W ∧ (Reg.L rl 0 → ¬ Reg.L rl 7 → u70 = .agg #[.slice kx key.length kd, .int .i64 1, .int .i64 s.top, .int .u64 (s.bits : Int), .string who, .int .i64 s.top]) ∧ (Reg.L rl 1 → ¬ Reg.L rl 3 → u71 = .slice (some ⟨lg, lo, none⟩) l.length lc) ∧ (Reg.L rl 2 → ¬ Reg.L rl 3 → u72 = .int .i64 (q : Int)) ∧ (Reg.L rl 3 → ¬ Reg.L rl 4 → u73 = .pointer (some ⟨lg, lo + q * 3, none⟩)) ∧ (Reg.L rl 4 → ¬ Reg.L rl 5 → u74 = .pointer (some ⟨lg, lo + q * 3 + 1, none⟩)) ∧ (Reg.L rl 5 → ¬ Reg.L rl 7 → u75 = .string ms) ∧ (Reg.L rl 6 → ¬ Reg.L rl 7 → u76 = .slice vb 27 cb) ∧ (Reg.L rl 7 → ¬ Reg.L rl 8 → ∃ kh dh vh zh, u77 = .tuple #[.agg #[.slice kh key.length dh, .int .i64 1, .int .i64 s.top, .int .u64 (s.bits : Int), .string who, .int .i64 s.top], .slice vh 0 zh, .iface 56 (.int .i64 12)] ∧ Byts W kh dh key ∧ Byts W vh zh []) ∧ (Reg.L rl 8 → ∃ kh dh vh zh, u69 = .tuple #[.agg #[.slice kh key.length dh, .int .i64 1, .int .i64 s.top, .int .u64 (s.bits : Int), .string who, .int .i64 s.top], .slice vh 0 zh, .iface 56 (.int .i64 12)] ∧ Byts W kh dh key ∧ Byts W vh zh []) ∧ (Reg.L rl 9 → ¬ Reg.L rl 13 → ∃ kh dh, u78 = .agg #[.slice kh key.length dh, .int .i64 1, .int .i64 s.top, .int .u64 (s.bits : Int), .string who, .int .i64 s.top] ∧ Byts W kh dh key) ∧ (Reg.L rl 10 → ¬ Reg.L rl 14 → ∃ vh zh, u79 = .slice vh 0 zh ∧ Byts W vh zh []) ∧ (Reg.L rl 11 → ¬ Reg.L rl 15 → u80 = .iface 56 (.int .i64 12)) ∧ (Reg.L rl 12 → ¬ Reg.L rl 13 → ∃ gh, u12 = .pointer (some ⟨gh, 0, none⟩) ∧ w5.heap.size ≤ gh ∧ W.heap[gh]? = some (.cells #[.slice none 0 0, .int .i64 0, .int .i64 0, .int .u64 0, .string ⟨#[]⟩, .int .i64 0] 31)) ∧ (Reg.L rl 13 → ∃ gh kh dh, u12 = .pointer (some ⟨gh, 0, none⟩) ∧ W.heap[gh]? = some (.cells #[.slice kh key.length dh, .int .i64 1, .int .i64 s.top, .int .u64 (s.bits : Int), .string who, .int .i64 s.top] 31) ∧ Byts W kh dh key ∧ w5.heap.size ≤ gh) ∧ (Reg.L rl 14 → ∃ vh zh, u13 = .slice vh 0 zh ∧ Byts W vh zh []) ∧ (Reg.L rl 15 → u14 = .iface 56 (.int .i64 12))) ?_ ?_ ?_
          · exact ⟨_, _, _, _, _, _, _, _, _, _, _, _, _, _, _, (Reg.over_self _ [12, 13, 14, 69, 70, 71, 72, 73, 74, 75, 76, 77, 78, 79, 80]).symm, REGB.out.drew, fun h => (Reg.L_none h).elim, fun h => (Reg.L_none h).elim, fun h => (Reg.L_none h).elim, fun h => (Reg.L_none h).elim, fun h => (Reg.L_none h).elim, fun h => (Reg.L_none h).elim, fun h => (Reg.L_none h).elim, fun h => (Reg.L_none h).elim, fun h => (Reg.L_none h).elim, fun h => (Reg.L_none h).elim, fun h => (Reg.L_none h).elim, fun h => (Reg.L_none h).elim, fun h => (Reg.L_none h).elim, fun h => (Reg.L_none h).elim, fun h => (Reg.L_none h).elim, fun h => (Reg.L_none h).elim⟩
          · intro rl ra W ri hl hD hJ hi
            obtain ⟨u12, u13, u14, u69, u70, u71, u72, u73, u74, u75, u76, u77, u78, u79, u80, hA, HB, F0, F1, F2, F3, F4, F5, F6, F7, F8, F9, F10, F11, F12, F13, F14, F15⟩ := hJ
            simp only [Reg.over, List.foldl_cons, List.foldl_nil, List.setIfInBounds_toArray, List.set_cons_zero, List.set_cons_succ] at hA
            subst hA
            have hN : rl.size = 16 := hl
            have hlt' : ri < 16 := (Reg.turn hi).2
            have hcs : ri = 0 ∨ ri = 1 ∨ ri = 2 ∨ ri = 3 ∨ ri = 4 ∨ ri = 5 ∨ ri = 6 ∨ ri = 7 ∨ ri = 8 ∨ ri = 9 ∨ ri = 10 ∨ ri = 11 ∨ ri = 12 ∨ ri = 13 ∨ ri = 14 ∨ ri = 15 := by omega
            clear hlt'
            rcases hcs with rfl | rfl | rfl | rfl | rfl | rfl | rfl | rfl | rfl | rfl | rfl | rfl | rfl | rfl | rfl | rfl
            · have tn := (Reg.turn hi).1
              refine wpOp_step rfl ?_
              intro K' hK
              clear hi
              obtain ⟨c0, c1, c2, c3, c4, c5⟩ := cells6 (blk X6.out HB)
              go_simp
              clear c0 c1 c2 c3 c4 c5
              refine hK _ _ ⟨(u12), (u13), (u14), (u69), (.agg #[.slice kx key.length kd, .int .i64 1, .int .i64 s.top, .int .u64 (s.bits : Int), .string who, .int .i64 s.top]), (u71), (u72), (u73), (u74), (u75), (u76), (u77), (u78), (u79), (u80), (by kernel_rfl), HB, fun _ _ => rfl,
                  fun h hn => F1 (Reg.set_ne (by decide) h) (fun h' => hn (Reg.no_set h' (by rw [hN]; decide))),
                  fun h hn => F2 (Reg.set_ne (by decide) h) (fun h' => hn (Reg.no_set h' (by rw [hN]; decide))),
                  fun h hn => F3 (Reg.set_ne (by decide) h) (fun h' => hn (Reg.no_set h' (by rw [hN]; decide))),
                  fun h hn => F4 (Reg.set_ne (by decide) h) (fun h' => hn (Reg.no_set h' (by rw [hN]; decide))),
                  fun h hn => F5 (Reg.set_ne (by decide) h) (fun h' => hn (Reg.no_set h' (by rw [hN]; decide))),
                  fun h hn => F6 (Reg.set_ne (by decide) h) (fun h' => hn (Reg.no_set h' (by rw [hN]; decide))),
                  fun h hn => F7 (Reg.set_ne (by decide) h) (fun h' => hn (Reg.no_set h' (by rw [hN]; decide))),
                  fun h => F8 (Reg.set_ne (by decide) h),
                  fun h hn => F9 (Reg.set_ne (by decide) h) (fun h' => hn (Reg.no_set h' (by rw [hN]; decide))),
                  fun h hn => F10 (Reg.set_ne (by decide) h) (fun h' => hn (Reg.no_set h' (by rw [hN]; decide))),
                  fun h hn => F11 (Reg.set_ne (by decide) h) (fun h' => hn (Reg.no_set h' (by rw [hN]; decide))),
                  fun h hn => F12 (Reg.set_ne (by decide) h) (fun h' => hn (Reg.no_set h' (by rw [hN]; decide))),
                  fun h => F13 (Reg.set_ne (by decide) h),
                  fun h => F14 (Reg.set_ne (by decide) h),
                  fun h => F15 (Reg.set_ne (by decide) h)⟩
            · have tn := (Reg.turn hi).1
              refine wpOp_step rfl ?_
              intro K' hK
              clear hi
              go_simp
              refine hK _ _ ⟨(u12), (u13), (u14), (u69), (u70), (.slice (some ⟨lg, lo, none⟩) l.length lc), (u72), (u73), (u74), (u75), (u76), (u77), (u78), (u79), (u80), (by kernel_rfl), HB, fun h hn => F0 (Reg.set_ne (by decide) h) (fun h' => hn (Reg.no_set h' (by rw [hN]; decide))),
                  fun _ _ => rfl,
                  fun h hn => F2 (Reg.set_ne (by decide) h) (fun h' => hn (Reg.no_set h' (by rw [hN]; decide))),
                  fun h hn => F3 (Reg.set_ne (by decide) h) (fun h' => hn (Reg.no_set h' (by rw [hN]; decide))),
                  fun h hn => F4 (Reg.set_ne (by decide) h) (fun h' => hn (Reg.no_set h' (by rw [hN]; decide))),
                  fun h hn => F5 (Reg.set_ne (by decide) h) (fun h' => hn (Reg.no_set h' (by rw [hN]; decide))),
                  fun h hn => F6 (Reg.set_ne (by decide) h) (fun h' => hn (Reg.no_set h' (by rw [hN]; decide))),
                  fun h hn => F7 (Reg.set_ne (by decide) h) (fun h' => hn (Reg.no_set h' (by rw [hN]; decide))),
                  fun h => F8 (Reg.set_ne (by decide) h),
                  fun h hn => F9 (Reg.set_ne (by decide) h) (fun h' => hn (Reg.no_set h' (by rw [hN]; decide))),
                  fun h hn => F10 (Reg.set_ne (by decide) h) (fun h' => hn (Reg.no_set h' (by rw [hN]; decide))),
                  fun h hn => F11 (Reg.set_ne (by decide) h) (fun h' => hn (Reg.no_set h' (by rw [hN]; decide))),
                  fun h hn => F12 (Reg.set_ne (by decide) h) (fun h' => hn (Reg.no_set h' (by rw [hN]; decide))),
                  fun h => F13 (Reg.set_ne (by decide) h),
                  fun h => F14 (Reg.set_ne (by decide) h),
                  fun h => F15 (Reg.set_ne (by decide) h)⟩
            · have tn := (Reg.turn hi).1
              refine wpOp_step rfl ?_
              intro K' hK
              clear hi
              go_simp
              refine hK _ _ ⟨(u12), (u13), (u14), (u69), (u70), (u71), (.int .i64 (q : Int)), (u73), (u74), (u75), (u76), (u77), (u78), (u79), (u80), (by kernel_rfl), HB, fun h hn => F0 (Reg.set_ne (by decide) h) (fun h' => hn (Reg.no_set h' (by rw [hN]; decide))),
                  fun h hn => F1 (Reg.set_ne (by decide) h) (fun h' => hn (Reg.no_set h' (by rw [hN]; decide))),
                  fun _ _ => rfl,
                  fun h hn => F3 (Reg.set_ne (by decide) h) (fun h' => hn (Reg.no_set h' (by rw [hN]; decide))),
                  fun h hn => F4 (Reg.set_ne (by decide) h) (fun h' => hn (Reg.no_set h' (by rw [hN]; decide))),
                  fun h hn => F5 (Reg.set_ne (by decide) h) (fun h' => hn (Reg.no_set h' (by rw [hN]; decide))),
                  fun h hn => F6 (Reg.set_ne (by decide) h) (fun h' => hn (Reg.no_set h' (by rw [hN]; decide))),
                  fun h hn => F7 (Reg.set_ne (by decide) h) (fun h' => hn (Reg.no_set h' (by rw [hN]; decide))),
                  fun h => F8 (Reg.set_ne (by decide) h),
                  fun h hn => F9 (Reg.set_ne (by decide) h) (fun h' => hn (Reg.no_set h' (by rw [hN]; decide))),
                  fun h hn => F10 (Reg.set_ne (by decide) h) (fun h' => hn (Reg.no_set h' (by rw [hN]; decide))),
                  fun h hn => F11 (Reg.set_ne (by decide) h) (fun h' => hn (Reg.no_set h' (by rw [hN]; decide))),
                  fun h hn => F12 (Reg.set_ne (by decide) h) (fun h' => hn (Reg.no_set h' (by rw [hN]; decide))),
                  fun h => F13 (Reg.set_ne (by decide) h),
                  fun h => F14 (Reg.set_ne (by decide) h),
                  fun h => F15 (Reg.set_ne (by decide) h)⟩
            · have tn := (Reg.turn hi).1
              obtain rfl := F1 (Reg.dep hi (by kernel_rfl)) tn
              obtain rfl := F2 (Reg.dep hi (by kernel_rfl)) tn
              refine wpOp_step rfl ?_
              intro K' hK
              clear hi
              go_simp
              refine hK _ _ ⟨(u12), (u13), (u14), (u69), (u70), (.slice (some ⟨lg, lo, none⟩) l.length lc), (.int .i64 (q : Int)), (.pointer (some ⟨lg, lo + q * 3, none⟩)), (u74), (u75), (u76), (u77), (u78), (u79), (u80), (by kernel_rfl), HB, fun h hn => F0 (Reg.set_ne (by decide) h) (fun h' => hn (Reg.no_set h' (by rw [hN]; decide))),
                  fun _ h => (h (Reg.set_self (by rw [hN]; decide))).elim,
                  fun _ h => (h (Reg.set_self (by rw [hN]; decide))).elim,
                  fun _ _ => rfl,
                  fun h hn => F4 (Reg.set_ne (by decide) h) (fun h' => hn (Reg.no_set h' (by rw [hN]; decide))),
                  fun h hn => F5 (Reg.set_ne (by decide) h) (fun h' => hn (Reg.no_set h' (by rw [hN]; decide))),
                  fun h hn => F6 (Reg.set_ne (by decide) h) (fun h' => hn (Reg.no_set h' (by rw [hN]; decide))),
                  fun h hn => F7 (Reg.set_ne (by decide) h) (fun h' => hn (Reg.no_set h' (by rw [hN]; decide))),
                  fun h => F8 (Reg.set_ne (by decide) h),
                  fun h hn => F9 (Reg.set_ne (by decide) h) (fun h' => hn (Reg.no_set h' (by rw [hN]; decide))),
                  fun h hn => F10 (Reg.set_ne (by decide) h) (fun h' => hn (Reg.no_set h' (by rw [hN]; decide))),
                  fun h hn => F11 (Reg.set_ne (by decide) h) (fun h' => hn (Reg.no_set h' (by rw [hN]; decide))),
                  fun h hn => F12 (Reg.set_ne (by decide) h) (fun h' => hn (Reg.no_set h' (by rw [hN]; decide))),
                  fun h => F13 (Reg.set_ne (by decide) h),
                  fun h => F14 (Reg.set_ne (by decide) h),
                  fun h => F15 (Reg.set_ne (by decide) h)⟩
            · have tn := (Reg.turn hi).1
              obtain rfl := F3 (Reg.dep hi (by kernel_rfl)) tn
              refine wpOp_step rfl ?_
              intro K' hK
              clear hi
              go_simp
              refine hK _ _ ⟨(u12), (u13), (u14), (u69), (u70), (u71), (u72), (.pointer (some ⟨lg, lo + q * 3, none⟩)), (.pointer (some ⟨lg, lo + q * 3 + 1, none⟩)), (u75), (u76), (u77), (u78), (u79), (u80), (by kernel_rfl), HB, fun h hn => F0 (Reg.set_ne (by decide) h) (fun h' => hn (Reg.no_set h' (by rw [hN]; decide))),
                  fun h hn => F1 (Reg.set_ne (by decide) h) (fun h' => hn (Reg.no_set h' (by rw [hN]; decide))),
                  fun h hn => F2 (Reg.set_ne (by decide) h) (fun h' => hn (Reg.no_set h' (by rw [hN]; decide))),
                  fun _ h => (h (Reg.set_self (by rw [hN]; decide))).elim,
                  fun _ _ => rfl,
                  fun h hn => F5 (Reg.set_ne (by decide) h) (fun h' => hn (Reg.no_set h' (by rw [hN]; decide))),
                  fun h hn => F6 (Reg.set_ne (by decide) h) (fun h' => hn (Reg.no_set h' (by rw [hN]; decide))),
                  fun h hn => F7 (Reg.set_ne (by decide) h) (fun h' => hn (Reg.no_set h' (by rw [hN]; decide))),
                  fun h => F8 (Reg.set_ne (by decide) h),
                  fun h hn => F9 (Reg.set_ne (by decide) h) (fun h' => hn (Reg.no_set h' (by rw [hN]; decide))),
                  fun h hn => F10 (Reg.set_ne (by decide) h) (fun h' => hn (Reg.no_set h' (by rw [hN]; decide))),
                  fun h hn => F11 (Reg.set_ne (by decide) h) (fun h' => hn (Reg.no_set h' (by rw [hN]; decide))),
                  fun h hn => F12 (Reg.set_ne (by decide) h) (fun h' => hn (Reg.no_set h' (by rw [hN]; decide))),
                  fun h => F13 (Reg.set_ne (by decide) h),
                  fun h => F14 (Reg.set_ne (by decide) h),
                  fun h => F15 (Reg.set_ne (by decide) h)⟩
            · have tn := (Reg.turn hi).1
              obtain rfl := F4 (Reg.dep hi (by kernel_rfl)) tn
              refine wpOp_step rfl ?_
              intro K' hK
              clear hi
              have cs := (HB.cell (p := ⟨lg, lo + q * 3 + 1, none⟩) (block_lt_of_cell d1)).trans d1
              go_simp
              clear cs
              refine hK _ _ ⟨(u12), (u13), (u14), (u69), (u70), (u71), (u72), (u73), (.pointer (some ⟨lg, lo + q * 3 + 1, none⟩)), (.string ms), (u76), (u77), (u78), (u79), (u80), (by kernel_rfl), HB, fun h hn => F0 (Reg.set_ne (by decide) h) (fun h' => hn (Reg.no_set h' (by rw [hN]; decide))),
                  fun h hn => F1 (Reg.set_ne (by decide) h) (fun h' => hn (Reg.no_set h' (by rw [hN]; decide))),
                  fun h hn => F2 (Reg.set_ne (by decide) h) (fun h' => hn (Reg.no_set h' (by rw [hN]; decide))),
                  fun h hn => F3 (Reg.set_ne (by decide) h) (fun h' => hn (Reg.no_set h' (by rw [hN]; decide))),
                  fun _ h => (h (Reg.set_self (by rw [hN]; decide))).elim,
                  fun _ _ => rfl,
                  fun h hn => F6 (Reg.set_ne (by decide) h) (fun h' => hn (Reg.no_set h' (by rw [hN]; decide))),
                  fun h hn => F7 (Reg.set_ne (by decide) h) (fun h' => hn (Reg.no_set h' (by rw [hN]; decide))),
                  fun h => F8 (Reg.set_ne (by decide) h),
                  fun h hn => F9 (Reg.set_ne (by decide) h) (fun h' => hn (Reg.no_set h' (by rw [hN]; decide))),
                  fun h hn => F10 (Reg.set_ne (by decide) h) (fun h' => hn (Reg.no_set h' (by rw [hN]; decide))),
                  fun h hn => F11 (Reg.set_ne (by decide) h) (fun h' => hn (Reg.no_set h' (by rw [hN]; decide))),
                  fun h hn => F12 (Reg.set_ne (by decide) h) (fun h' => hn (Reg.no_set h' (by rw [hN]; decide))),
                  fun h => F13 (Reg.set_ne (by decide) h),
                  fun h => F14 (Reg.set_ne (by decide) h),
                  fun h => F15 (Reg.set_ne (by decide) h)⟩
            · have tn := (Reg.turn hi).1
              refine wpOp_step rfl ?_
              intro K' hK
              clear hi
              go_simp
              refine hK _ _ ⟨(u12), (u13), (u14), (u69), (u70), (u71), (u72), (u73), (u74), (u75), (.slice vb 27 cb), (u77), (u78), (u79), (u80), (by kernel_rfl), HB, fun h hn => F0 (Reg.set_ne (by decide) h) (fun h' => hn (Reg.no_set h' (by rw [hN]; decide))),
                  fun h hn => F1 (Reg.set_ne (by decide) h) (fun h' => hn (Reg.no_set h' (by rw [hN]; decide))),
                  fun h hn => F2 (Reg.set_ne (by decide) h) (fun h' => hn (Reg.no_set h' (by rw [hN]; decide))),
                  fun h hn => F3 (Reg.set_ne (by decide) h) (fun h' => hn (Reg.no_set h' (by rw [hN]; decide))),
                  fun h hn => F4 (Reg.set_ne (by decide) h) (fun h' => hn (Reg.no_set h' (by rw [hN]; decide))),
                  fun h hn => F5 (Reg.set_ne (by decide) h) (fun h' => hn (Reg.no_set h' (by rw [hN]; decide))),
                  fun _ _ => rfl,
                  fun h hn => F7 (Reg.set_ne (by decide) h) (fun h' => hn (Reg.no_set h' (by rw [hN]; decide))),
                  fun h => F8 (Reg.set_ne (by decide) h),
                  fun h hn => F9 (Reg.set_ne (by decide) h) (fun h' => hn (Reg.no_set h' (by rw [hN]; decide))),
                  fun h hn => F10 (Reg.set_ne (by decide) h) (fun h' => hn (Reg.no_set h' (by rw [hN]; decide))),
                  fun h hn => F11 (Reg.set_ne (by decide) h) (fun h' => hn (Reg.no_set h' (by rw [hN]; decide))),
                  fun h hn => F12 (Reg.set_ne (by decide) h) (fun h' => hn (Reg.no_set h' (by rw [hN]; decide))),
                  fun h => F13 (Reg.set_ne (by decide) h),
                  fun h => F14 (Reg.set_ne (by decide) h),
                  fun h => F15 (Reg.set_ne (by decide) h)⟩
            · have tn := (Reg.turn hi).1
              obtain rfl := F0 (Reg.dep hi (by kernel_rfl)) tn
              obtain rfl := F5 (Reg.dep hi (by kernel_rfl)) tn
              obtain rfl := F6 (Reg.dep hi (by kernel_rfl)) tn
              refine wpOp_step rfl ?_
              intro K' hK
              clear hi
              go_simp
              refine (HC.out W HB).mono ?_
              rintro e W2 ⟨kh, dh, vh, zh, rfl, hkb, ho, HST⟩
              refine hK _ _ ⟨(u12), (u13), (u14), (u69), (.agg #[.slice kx key.length kd, .int .i64 1, .int .i64 s.top, .int .u64 (s.bits : Int), .string who, .int .i64 s.top]), (u71), (u72), (u73), (u74), (.string ms), (.slice vb 27 cb), (.tuple #[.agg #[.slice kh key.length dh, .int .i64 1, .int .i64 s.top, .int .u64 (s.bits : Int), .string who, .int .i64 s.top], .slice vh 0 zh, .iface 56 (.int .i64 12)]), (u78), (u79), (u80), (by kernel_rfl), (kept_trans HB HST), fun _ h => (h (Reg.set_self (by rw [hN]; decide))).elim,
                  fun h hn => F1 (Reg.set_ne (by decide) h) (fun h' => hn (Reg.no_set h' (by rw [hN]; decide))),
                  fun h hn => F2 (Reg.set_ne (by decide) h) (fun h' => hn (Reg.no_set h' (by rw [hN]; decide))),
                  fun h hn => F3 (Reg.set_ne (by decide) h) (fun h' => hn (Reg.no_set h' (by rw [hN]; decide))),
                  fun h hn => F4 (Reg.set_ne (by decide) h) (fun h' => hn (Reg.no_set h' (by rw [hN]; decide))),
                  fun _ h => (h (Reg.set_self (by rw [hN]; decide))).elim,
                  fun _ h => (h (Reg.set_self (by rw [hN]; decide))).elim,
                  fun _ _ => ⟨_, _, _, _, rfl, hkb, byts_own ho HB8.out⟩,
                  fun h => (let ⟨kh, dh, vh, zh, p0, p1, p2⟩ := F8 (Reg.set_ne (by decide) h); ⟨kh, dh, vh, zh, p0, (p1.below HST), (p2.below HST)⟩),
                  fun h hn => (let ⟨kh, dh, p0, p1⟩ := F9 (Reg.set_ne (by decide) h) (fun h' => hn (Reg.no_set h' (by rw [hN]; decide))); ⟨kh, dh, p0, (p1.below HST)⟩),
                  fun h hn => (let ⟨vh, zh, p0, p1⟩ := F10 (Reg.set_ne (by decide) h) (fun h' => hn (Reg.no_set h' (by rw [hN]; decide))); ⟨vh, zh, p0, (p1.below HST)⟩),
                  fun h hn => F11 (Reg.set_ne (by decide) h) (fun h' => hn (Reg.no_set h' (by rw [hN]; decide))),
                  fun h hn => (let ⟨gh, p0, p1, p2⟩ := F12 (Reg.set_ne (by decide) h) (fun h' => hn (Reg.no_set h' (by rw [hN]; decide))); ⟨gh, p0, p1, (blk p2 HST)⟩),
                  fun h => (let ⟨gh, kh, dh, p0, p1, p2, p3⟩ := F13 (Reg.set_ne (by decide) h); ⟨gh, kh, dh, p0, (blk p1 HST), (p2.below HST), p3⟩),
                  fun h => (let ⟨vh, zh, p0, p1⟩ := F14 (Reg.set_ne (by decide) h); ⟨vh, zh, p0, (p1.below HST)⟩),
                  fun h => F15 (Reg.set_ne (by decide) h)⟩
            · have tn := (Reg.turn hi).1
              have z := F7 (Reg.dep hi (by kernel_rfl)) tn
              obtain ⟨kh, dh, vh, zh, rfl, e7_1, e7_2⟩ := z
              refine wpOp_step rfl ?_
              intro K' hK
              clear hi
              go_simp
              refine hK _ _ ⟨(u12), (u13), (u14), (.tuple #[.agg #[.slice kh key.length dh, .int .i64 1, .int .i64 s.top, .int .u64 (s.bits : Int), .string who, .int .i64 s.top], .slice vh 0 zh, .iface 56 (.int .i64 12)]), (u70), (u71), (u72), (u73), (u74), (u75), (u76), (.tuple #[.agg #[.slice kh key.length dh, .int .i64 1, .int .i64 s.top, .int .u64 (s.bits : Int), .string who, .int .i64 s.top], .slice vh 0 zh, .iface 56 (.int .i64 12)]), (u78), (u79), (u80), (by kernel_rfl), HB, fun h hn => F0 (Reg.set_ne (by decide) h) (fun h' => hn (Reg.no_set h' (by rw [hN]; decide))),
                  fun h hn => F1 (Reg.set_ne (by decide) h) (fun h' => hn (Reg.no_set h' (by rw [hN]; decide))),
                  fun h hn => F2 (Reg.set_ne (by decide) h) (fun h' => hn (Reg.no_set h' (by rw [hN]; decide))),
                  fun h hn => F3 (Reg.set_ne (by decide) h) (fun h' => hn (Reg.no_set h' (by rw [hN]; decide))),
                  fun h hn => F4 (Reg.set_ne (by decide) h) (fun h' => hn (Reg.no_set h' (by rw [hN]; decide))),
                  fun h hn => F5 (Reg.set_ne (by decide) h) (fun h' => hn (Reg.no_set h' (by rw [hN]; decide))),
                  fun h hn => F6 (Reg.set_ne (by decide) h) (fun h' => hn (Reg.no_set h' (by rw [hN]; decide))),
                  fun _ h => (h (Reg.set_self (by rw [hN]; decide))).elim,
                  fun _ => ⟨_, _, _, _, rfl, e7_1, e7_2⟩,
                  fun h hn => F9 (Reg.set_ne (by decide) h) (fun h' => hn (Reg.no_set h' (by rw [hN]; decide))),
                  fun h hn => F10 (Reg.set_ne (by decide) h) (fun h' => hn (Reg.no_set h' (by rw [hN]; decide))),
                  fun h hn => F11 (Reg.set_ne (by decide) h) (fun h' => hn (Reg.no_set h' (by rw [hN]; decide))),
                  fun h hn => F12 (Reg.set_ne (by decide) h) (fun h' => hn (Reg.no_set h' (by rw [hN]; decide))),
                  fun h => F13 (Reg.set_ne (by decide) h),
                  fun h => F14 (Reg.set_ne (by decide) h),
                  fun h => F15 (Reg.set_ne (by decide) h)⟩
            · have tn := (Reg.turn hi).1
              have z := F8 (Reg.dep hi (by kernel_rfl))
              obtain ⟨kh, dh, vh, zh, rfl, e8_1, e8_2⟩ := z
              refine wpOp_step rfl ?_
              intro K' hK
              clear hi
              go_simp
              refine hK _ _ ⟨(u12), (u13), (u14), (.tuple #[.agg #[.slice kh key.length dh, .int .i64 1, .int .i64 s.top, .int .u64 (s.bits : Int), .string who, .int .i64 s.top], .slice vh 0 zh, .iface 56 (.int .i64 12)]), (u70), (u71), (u72), (u73), (u74), (u75), (u76), (u77), (.agg #[.slice kh key.length dh, .int .i64 1, .int .i64 s.top, .int .u64 (s.bits : Int), .string who, .int .i64 s.top]), (u79), (u80), (by kernel_rfl), HB, fun h hn => F0 (Reg.set_ne (by decide) h) (fun h' => hn (Reg.no_set h' (by rw [hN]; decide))),
                  fun h hn => F1 (Reg.set_ne (by decide) h) (fun h' => hn (Reg.no_set h' (by rw [hN]; decide))),
                  fun h hn => F2 (Reg.set_ne (by decide) h) (fun h' => hn (Reg.no_set h' (by rw [hN]; decide))),
                  fun h hn => F3 (Reg.set_ne (by decide) h) (fun h' => hn (Reg.no_set h' (by rw [hN]; decide))),
                  fun h hn => F4 (Reg.set_ne (by decide) h) (fun h' => hn (Reg.no_set h' (by rw [hN]; decide))),
                  fun h hn => F5 (Reg.set_ne (by decide) h) (fun h' => hn (Reg.no_set h' (by rw [hN]; decide))),
                  fun h hn => F6 (Reg.set_ne (by decide) h) (fun h' => hn (Reg.no_set h' (by rw [hN]; decide))),
                  fun h hn => F7 (Reg.set_ne (by decide) h) (fun h' => hn (Reg.no_set h' (by rw [hN]; decide))),
                  fun h => F8 (Reg.set_ne (by decide) h),
                  fun _ _ => ⟨_, _, rfl, e8_1⟩,
                  fun h hn => F10 (Reg.set_ne (by decide) h) (fun h' => hn (Reg.no_set h' (by rw [hN]; decide))),
                  fun h hn => F11 (Reg.set_ne (by decide) h) (fun h' => hn (Reg.no_set h' (by rw [hN]; decide))),
                  fun h hn => F12 (Reg.set_ne (by decide) h) (fun h' => hn (Reg.no_set h' (by rw [hN]; decide))),
                  fun h => F13 (Reg.set_ne (by decide) h),
                  fun h => F14 (Reg.set_ne (by decide) h),
                  fun h => F15 (Reg.set_ne (by decide) h)⟩
            · have tn := (Reg.turn hi).1
              have z := F8 (Reg.dep hi (by kernel_rfl))
              obtain ⟨kh, dh, vh, zh, rfl, e8_1, e8_2⟩ := z
              refine wpOp_step rfl ?_
              intro K' hK
              clear hi
              go_simp
              refine hK _ _ ⟨(u12), (u13), (u14), (.tuple #[.agg #[.slice kh key.length dh, .int .i64 1, .int .i64 s.top, .int .u64 (s.bits : Int), .string who, .int .i64 s.top], .slice vh 0 zh, .iface 56 (.int .i64 12)]), (u70), (u71), (u72), (u73), (u74), (u75), (u76), (u77), (u78), (.slice vh 0 zh), (u80), (by kernel_rfl), HB, fun h hn => F0 (Reg.set_ne (by decide) h) (fun h' => hn (Reg.no_set h' (by rw [hN]; decide))),
                  fun h hn => F1 (Reg.set_ne (by decide) h) (fun h' => hn (Reg.no_set h' (by rw [hN]; decide))),
                  fun h hn => F2 (Reg.set_ne (by decide) h) (fun h' => hn (Reg.no_set h' (by rw [hN]; decide))),
                  fun h hn => F3 (Reg.set_ne (by decide) h) (fun h' => hn (Reg.no_set h' (by rw [hN]; decide))),
                  fun h hn => F4 (Reg.set_ne (by decide) h) (fun h' => hn (Reg.no_set h' (by rw [hN]; decide))),
                  fun h hn => F5 (Reg.set_ne (by decide) h) (fun h' => hn (Reg.no_set h' (by rw [hN]; decide))),
                  fun h hn => F6 (Reg.set_ne (by decide) h) (fun h' => hn (Reg.no_set h' (by rw [hN]; decide))),
                  fun h hn => F7 (Reg.set_ne (by decide) h) (fun h' => hn (Reg.no_set h' (by rw [hN]; decide))),
                  fun h => F8 (Reg.set_ne (by decide) h),
                  fun h hn => F9 (Reg.set_ne (by decide) h) (fun h' => hn (Reg.no_set h' (by rw [hN]; decide))),
                  fun _ _ => ⟨_, _, rfl, e8_2⟩,
                  fun h hn => F11 (Reg.set_ne (by decide) h) (fun h' => hn (Reg.no_set h' (by rw [hN]; decide))),
                  fun h hn => F12 (Reg.set_ne (by decide) h) (fun h' => hn (Reg.no_set h' (by rw [hN]; decide))),
                  fun h => F13 (Reg.set_ne (by decide) h),
                  fun h => F14 (Reg.set_ne (by decide) h),
                  fun h => F15 (Reg.set_ne (by decide) h)⟩
            · have tn := (Reg.turn hi).1
              have z := F8 (Reg.dep hi (by kernel_rfl))
              obtain ⟨kh, dh, vh, zh, rfl, e8_1, e8_2⟩ := z
              refine wpOp_step rfl ?_
              intro K' hK
              clear hi
              go_simp
              refine hK _ _ ⟨(u12), (u13), (u14), (.tuple #[.agg #[.slice kh key.length dh, .int .i64 1, .int .i64 s.top, .int .u64 (s.bits : Int), .string who, .int .i64 s.top], .slice vh 0 zh, .iface 56 (.int .i64 12)]), (u70), (u71), (u72), (u73), (u74), (u75), (u76), (u77), (u78), (u79), (.iface 56 (.int .i64 12)), (by kernel_rfl), HB, fun h hn => F0 (Reg.set_ne (by decide) h) (fun h' => hn (Reg.no_set h' (by rw [hN]; decide))),
                  fun h hn => F1 (Reg.set_ne (by decide) h) (fun h' => hn (Reg.no_set h' (by rw [hN]; decide))),
                  fun h hn => F2 (Reg.set_ne (by decide) h) (fun h' => hn (Reg.no_set h' (by rw [hN]; decide))),
                  fun h hn => F3 (Reg.set_ne (by decide) h) (fun h' => hn (Reg.no_set h' (by rw [hN]; decide))),
                  fun h hn => F4 (Reg.set_ne (by decide) h) (fun h' => hn (Reg.no_set h' (by rw [hN]; decide))),
                  fun h hn => F5 (Reg.set_ne (by decide) h) (fun h' => hn (Reg.no_set h' (by rw [hN]; decide))),
                  fun h hn => F6 (Reg.set_ne (by decide) h) (fun h' => hn (Reg.no_set h' (by rw [hN]; decide))),
                  fun h hn => F7 (Reg.set_ne (by decide) h) (fun h' => hn (Reg.no_set h' (by rw [hN]; decide))),
                  fun h => F8 (Reg.set_ne (by decide) h),
                  fun h hn => F9 (Reg.set_ne (by decide) h) (fun h' => hn (Reg.no_set h' (by rw [hN]; decide))),
                  fun h hn => F10 (Reg.set_ne (by decide) h) (fun h' => hn (Reg.no_set h' (by rw [hN]; decide))),
                  fun _ _ => rfl,
                  fun h hn => F12 (Reg.set_ne (by decide) h) (fun h' => hn (Reg.no_set h' (by rw [hN]; decide))),
                  fun h => F13 (Reg.set_ne (by decide) h),
                  fun h => F14 (Reg.set_ne (by decide) h),
                  fun h => F15 (Reg.set_ne (by decide) h)⟩
            · have tn := (Reg.turn hi).1
              refine wpOp_step rfl ?_
              intro K' hK
              clear hi
              have HST := al_any W (.cells #[.slice none 0 0, .int .i64 0, .int .i64 0, .int .u64 0, .string ⟨#[]⟩, .int .i64 0] 31)
              go_simp
              refine hK _ _ ⟨(.pointer (some ⟨W.heap.size, 0, none⟩)), (u13), (u14), (u69), (u70), (u71), (u72), (u73), (u74), (u75), (u76), (u77), (u78), (u79), (u80), (by kernel_rfl), (kept_trans HB HST), fun h hn => F0 (Reg.set_ne (by decide) h) (fun h' => hn (Reg.no_set h' (by rw [hN]; decide))),
                  fun h hn => F1 (Reg.set_ne (by decide) h) (fun h' => hn (Reg.no_set h' (by rw [hN]; decide))),
                  fun h hn => F2 (Reg.set_ne (by decide) h) (fun h' => hn (Reg.no_set h' (by rw [hN]; decide))),
                  fun h hn => F3 (Reg.set_ne (by decide) h) (fun h' => hn (Reg.no_set h' (by rw [hN]; decide))),
                  fun h hn => F4 (Reg.set_ne (by decide) h) (fun h' => hn (Reg.no_set h' (by rw [hN]; decide))),
                  fun h hn => F5 (Reg.set_ne (by decide) h) (fun h' => hn (Reg.no_set h' (by rw [hN]; decide))),
                  fun h hn => F6 (Reg.set_ne (by decide) h) (fun h' => hn (Reg.no_set h' (by rw [hN]; decide))),
                  fun h hn => (let ⟨kh, dh, vh, zh, p0, p1, p2⟩ := F7 (Reg.set_ne (by decide) h) (fun h' => hn (Reg.no_set h' (by rw [hN]; decide))); ⟨kh, dh, vh, zh, p0, (p1.below HST), (p2.below HST)⟩),
                  fun h => (let ⟨kh, dh, vh, zh, p0, p1, p2⟩ := F8 (Reg.set_ne (by decide) h); ⟨kh, dh, vh, zh, p0, (p1.below HST), (p2.below HST)⟩),
                  fun h hn => (let ⟨kh, dh, p0, p1⟩ := F9 (Reg.set_ne (by decide) h) (fun h' => hn (Reg.no_set h' (by rw [hN]; decide))); ⟨kh, dh, p0, (p1.below HST)⟩),
                  fun h hn => (let ⟨vh, zh, p0, p1⟩ := F10 (Reg.set_ne (by decide) h) (fun h' => hn (Reg.no_set h' (by rw [hN]; decide))); ⟨vh, zh, p0, (p1.below HST)⟩),
                  fun h hn => F11 (Reg.set_ne (by decide) h) (fun h' => hn (Reg.no_set h' (by rw [hN]; decide))),
                  fun _ _ => ⟨_, rfl, HB.size, heap_alloc_new _ _⟩,
                  fun h => (tn (hD 13 12 (Reg.set_ne (by decide) h) (by kernel_rfl))).elim,
                  fun h => (let ⟨vh, zh, p0, p1⟩ := F14 (Reg.set_ne (by decide) h); ⟨vh, zh, p0, (p1.below HST)⟩),
                  fun h => F15 (Reg.set_ne (by decide) h)⟩
            · have tn := (Reg.turn hi).1
              have z := F9 (Reg.dep hi (by kernel_rfl)) tn
              obtain ⟨kh, dh, rfl, e9_1⟩ := z
              have z := F12 (Reg.dep hi (by kernel_rfl)) tn
              obtain ⟨gh, rfl, e12_1, e12_2⟩ := z
              refine wpOp_step rfl ?_
              intro K' hK
              clear hi
              have HGB := e12_2
              have HNO := Reg.no_u8 HGB (by simp)
              have SF := over6 W _ 31 _ _ _ _ _ _ (.slice kh key.length dh) (.int .i64 1) (.int .i64 s.top) (.int .u64 (s.bits : Int)) (.string who) (.int .i64 s.top) HGB
              have HST := SF.2
              obtain ⟨y0, y1, y2, y3, y4, y5⟩ := cells6 HGB
              obtain ⟨f0, f1, f2, f3, f4, f5⟩ := free6 HGB
              go_simp
              clear y0 y1 y2 y3 y4 y5 f0 f1 f2 f3 f4 f5
              refine hK _ _ ⟨(.pointer (some ⟨gh, 0, none⟩)), (u13), (u14), (u69), (u70), (u71), (u72), (u73), (u74), (u75), (u76), (u77), (.agg #[.slice kh key.length dh, .int .i64 1, .int .i64 s.top, .int .u64 (s.bits : Int), .string who, .int .i64 s.top]), (u79), (u80), (by kernel_rfl), (HB.grown HST HB.size (by intro q hq; injection hq with hq; omega)), fun h hn => F0 (Reg.set_ne (by decide) h) (fun h' => hn (Reg.no_set h' (by rw [hN]; decide))),
                  fun h hn => F1 (Reg.set_ne (by decide) h) (fun h' => hn (Reg.no_set h' (by rw [hN]; decide))),
                  fun h hn => F2 (Reg.set_ne (by decide) h) (fun h' => hn (Reg.no_set h' (by rw [hN]; decide))),
                  fun h hn => F3 (Reg.set_ne (by decide) h) (fun h' => hn (Reg.no_set h' (by rw [hN]; decide))),
                  fun h hn => F4 (Reg.set_ne (by decide) h) (fun h' => hn (Reg.no_set h' (by rw [hN]; decide))),
                  fun h hn => F5 (Reg.set_ne (by decide) h) (fun h' => hn (Reg.no_set h' (by rw [hN]; decide))),
                  fun h hn => F6 (Reg.set_ne (by decide) h) (fun h' => hn (Reg.no_set h' (by rw [hN]; decide))),
                  fun h hn => (let ⟨kh, dh, vh, zh, p0, p1, p2⟩ := F7 (Reg.set_ne (by decide) h) (fun h' => hn (Reg.no_set h' (by rw [hN]; decide))); ⟨kh, dh, vh, zh, p0, (Reg.byts_grown HST HNO p1), (Reg.byts_grown HST HNO p2)⟩),
                  fun h => (let ⟨kh, dh, vh, zh, p0, p1, p2⟩ := F8 (Reg.set_ne (by decide) h); ⟨kh, dh, vh, zh, p0, (Reg.byts_grown HST HNO p1), (Reg.byts_grown HST HNO p2)⟩),
                  fun _ h => (h (Reg.set_self (by rw [hN]; decide))).elim,
                  fun h hn => (let ⟨vh, zh, p0, p1⟩ := F10 (Reg.set_ne (by decide) h) (fun h' => hn (Reg.no_set h' (by rw [hN]; decide))); ⟨vh, zh, p0, (Reg.byts_grown HST HNO p1)⟩),
                  fun h hn => F11 (Reg.set_ne (by decide) h) (fun h' => hn (Reg.no_set h' (by rw [hN]; decide))),
                  fun _ h => (h (Reg.set_self (by rw [hN]; decide))).elim,
                  fun _ => ⟨_, _, _, rfl, SF.1, Reg.byts_grown HST HNO e9_1, e12_1⟩,
                  fun h => (let ⟨vh, zh, p0, p1⟩ := F14 (Reg.set_ne (by decide) h); ⟨vh, zh, p0, (Reg.byts_grown HST HNO p1)⟩),
                  fun h => F15 (Reg.set_ne (by decide) h)⟩
            · have tn := (Reg.turn hi).1
              have z := F10 (Reg.dep hi (by kernel_rfl)) tn
              obtain ⟨vh, zh, rfl, e10_1⟩ := z
              refine wpOp_step rfl ?_
              intro K' hK
              clear hi
              go_simp
              refine hK _ _ ⟨(u12), (.slice vh 0 zh), (u14), (u69), (u70), (u71), (u72), (u73), (u74), (u75), (u76), (u77), (u78), (.slice vh 0 zh), (u80), (by kernel_rfl), HB, fun h hn => F0 (Reg.set_ne (by decide) h) (fun h' => hn (Reg.no_set h' (by rw [hN]; decide))),
                  fun h hn => F1 (Reg.set_ne (by decide) h) (fun h' => hn (Reg.no_set h' (by rw [hN]; decide))),
                  fun h hn => F2 (Reg.set_ne (by decide) h) (fun h' => hn (Reg.no_set h' (by rw [hN]; decide))),
                  fun h hn => F3 (Reg.set_ne (by decide) h) (fun h' => hn (Reg.no_set h' (by rw [hN]; decide))),
                  fun h hn => F4 (Reg.set_ne (by decide) h) (fun h' => hn (Reg.no_set h' (by rw [hN]; decide))),
                  fun h hn => F5 (Reg.set_ne (by decide) h) (fun h' => hn (Reg.no_set h' (by rw [hN]; decide))),
                  fun h hn => F6 (Reg.set_ne (by decide) h) (fun h' => hn (Reg.no_set h' (by rw [hN]; decide))),
                  fun h hn => F7 (Reg.set_ne (by decide) h) (fun h' => hn (Reg.no_set h' (by rw [hN]; decide))),
                  fun h => F8 (Reg.set_ne (by decide) h),
                  fun h hn => F9 (Reg.set_ne (by decide) h) (fun h' => hn (Reg.no_set h' (by rw [hN]; decide))),
                  fun _ h => (h (Reg.set_self (by rw [hN]; decide))).elim,
                  fun h hn => F11 (Reg.set_ne (by decide) h) (fun h' => hn (Reg.no_set h' (by rw [hN]; decide))),
                  fun h hn => F12 (Reg.set_ne (by decide) h) (fun h' => hn (Reg.no_set h' (by rw [hN]; decide))),
                  fun h => F13 (Reg.set_ne (by decide) h),
                  fun _ => ⟨_, _, rfl, e10_1⟩,
                  fun h => F15 (Reg.set_ne (by decide) h)⟩
            · have tn := (Reg.turn hi).1
              obtain rfl := F11 (Reg.dep hi (by kernel_rfl)) tn
              refine wpOp_step rfl ?_
              intro K' hK
              clear hi
              go_simp
              refine hK _ _ ⟨(u12), (u13), (.iface 56 (.int .i64 12)), (u69), (u70), (u71), (u72), (u73), (u74), (u75), (u76), (u77), (u78), (u79), (.iface 56 (.int .i64 12)), (by kernel_rfl), HB, fun h hn => F0 (Reg.set_ne (by decide) h) (fun h' => hn (Reg.no_set h' (by rw [hN]; decide))),
                  fun h hn => F1 (Reg.set_ne (by decide) h) (fun h' => hn (Reg.no_set h' (by rw [hN]; decide))),
                  fun h hn => F2 (Reg.set_ne (by decide) h) (fun h' => hn (Reg.no_set h' (by rw [hN]; decide))),
                  fun h hn => F3 (Reg.set_ne (by decide) h) (fun h' => hn (Reg.no_set h' (by rw [hN]; decide))),
                  fun h hn => F4 (Reg.set_ne (by decide) h) (fun h' => hn (Reg.no_set h' (by rw [hN]; decide))),
                  fun h hn => F5 (Reg.set_ne (by decide) h) (fun h' => hn (Reg.no_set h' (by rw [hN]; decide))),
                  fun h hn => F6 (Reg.set_ne (by decide) h) (fun h' => hn (Reg.no_set h' (by rw [hN]; decide))),
                  fun h hn => F7 (Reg.set_ne (by decide) h) (fun h' => hn (Reg.no_set h' (by rw [hN]; decide))),
                  fun h => F8 (Reg.set_ne (by decide) h),
                  fun h hn => F9 (Reg.set_ne (by decide) h) (fun h' => hn (Reg.no_set h' (by rw [hN]; decide))),
                  fun h hn => F10 (Reg.set_ne (by decide) h) (fun h' => hn (Reg.no_set h' (by rw [hN]; decide))),
                  fun _ h => (h (Reg.set_self (by rw [hN]; decide))).elim,
                  fun h hn => F12 (Reg.set_ne (by decide) h) (fun h' => hn (Reg.no_set h' (by rw [hN]; decide))),
                  fun h => F13 (Reg.set_ne (by decide) h),
                  fun h => F14 (Reg.set_ne (by decide) h),
                  fun _ => rfl⟩
          intro rl ra w7 hl hJ hr
          obtain ⟨u12, u13, u14, u69, u70, u71, u72, u73, u74, u75, u76, u77, u78, u79, u80, hA, HB, F0, F1, F2, F3, F4, F5, F6, F7, F8, F9, F10, F11, F12, F13, F14, F15⟩ := hJ
          simp only [Reg.over, List.foldl_cons, List.foldl_nil, List.setIfInBounds_toArray, List.set_cons_zero, List.set_cons_succ] at hA
          subst hA
          have AD := Reg.done hl hr (by kernel_rfl)
          obtain ⟨gh, kh, dh, rfl, XH, KH, HGH⟩ := F13 (AD 13 (by decide))
          obtain ⟨vh, zh, rfl, BH⟩ := F14 (AD 14 (by decide))
          obtain rfl := F15 (AD 15 (by decide))
          clear AD hr hl F0 F1 F2 F3 F4 F5 F6 F7 F8 F9 F10 F11 F12 F13 F14 F15
          have BZ := Lib.hid (kept_trans B6.out HB)
          have XG := Lib.hid (blk XR.out BZ.out)
          have HSA := Lib.hid (same_any ⟨key, 1, s, who, s.top⟩ kh dh kx kd w7 KH (KX.out.below BZ.out) (by have := HKL.out; show key.length < 1000000; omega))
          simp only at HSA
          have eii : wrap64 ((q : Int) + 1) = (q : Int) + 1 := by have := HLT.out; have := HBL.out; rw [IntWalk.wrap64_in] <;> omega
          have d2 := (BZ.out.cell (p := ⟨lg, lo + q * 3 + 2, none⟩) (block_lt_of_cell d2)).trans d2
          clear HB d1 B6 HC KH BH
          obtain ⟨c0, c1, c2, c3, c4, c5⟩ := cells6 XH
          obtain ⟨y0, y1, y2, y3, y4, y5⟩ := cells6 XG.out
          go_wp2_with fail
          refine HSA.out.mono ?_
          rintro e w8 ⟨rfl, hb⟩
          have BY := Lib.hid (kept_trans BZ.out hb)
          have d2 := (hb.cell (p := ⟨lg, lo + q * 3 + 2, none⟩) (block_lt_of_cell d2)).trans d2
          clear HSA BZ XG XH hb c0 c1 c2 c3 c4 c5 y0 y1 y2 y3 y4 y5
          go_wp2_with fail
          go_roundg (l.length + 1 - (q + 1))
          case measure => have := HLT.out; omega
          case rel => exact ⟨q + 1, s, inn, who, kx, kd, HLT.out, rfl, by first | exact congrArg (Value.int .i64) eii | rfl | go_num, rfl, rfl, HCM, HIN, Lib.hid (own_below SR.out BY.out), Lib.hid (blk XR.out BY.out), Lib.hid (KX.out.below BY.out), kept_hid KR BY.out⟩
        · rw [if_neg (show ¬ (Win.lets s (n : Int)).2 ≠ 0 by rw [e2]; decide)] at HC
          simp only [GaveR, errn_0, List.length_cons, List.length_nil, Nat.zero_add] at HC
          rw [HSL.out] at HC
          have HB8 := Lib.hid (show ∀ x ∈ [q], x < 256 from by have := HQ8.out; simpa using this)
          generalize (Win.lets s (n : Int)).1 = u at *
          clear e2
          by_cases hgt : s.top < (n : Int)
          · simp only [if_pos hgt] at HC htp
            obtain ⟨ut, ub⟩ := u
            simp only at htp HC
            subst htp
            have HIQ := Lib.hid hin
            have HGT := Lib.hid hgt
            clear hin hgt
            refine Reg.wp_region_inv (by kernel_rfl) (fun A0 rl ra W => ∃ (u12 u13 u14 u69 u70 u71 u72 u73 u74 u75 u76 u77 u78 u79 u80 : Value), ra = Reg.over A0 [(12, u12), (13, u13), (14, u14), (69, u69), (70, u70), (71, u71), (72, u72), (73, u73), (74, u74), (75, u75), (76, u76), (77, u77), (78, u78), (79, u79), (80, u80)] ∧ Below w5.heap.size w5 W ∧ (Reg.L rl 0 → ¬ Reg.L rl 7 → u70 = .agg #[.slice kx key.length kd, .int .i64 1, .int .i64 s.top, .int .u64 (s.bits : Int), .string who, .int .i64 s.top]) ∧ (Reg.L rl 1 → ¬ Reg.L rl 3 → u71 = .slice (some ⟨lg, lo, none⟩) l.length lc) ∧ (Reg.L rl 2 → ¬ Reg.L rl 3 → u72 = .int .i64 (q : Int)) ∧ (Reg.L rl 3 → ¬ Reg.L rl 4 → u73 = .pointer (some ⟨lg, lo + q * 3, none⟩)) ∧ (Reg.L rl 4 → ¬ Reg.L rl 5 → u74 = .pointer (some ⟨lg, lo + q * 3 + 1, none⟩)) ∧ (Reg.L rl 5 → ¬ Reg.L rl 7 → u75 = .string ms) ∧ (Reg.L rl 6 → ¬ Reg.L rl 7 → u76 = .slice vb 27 cb) ∧ (Reg.L rl 7 → ¬ Reg.L rl 8 → ∃ kh dh vh zh, u77 = .tuple #[.agg #[.slice kh key.length dh, .int .i64 1, .int .i64 (n : Int), .int .u64 (ub : Int), .string ms, .int .i64 (n : Int)], .slice vh 1 zh, .nilIface] ∧ Byts W kh dh key ∧ Byts W vh zh [q]) ∧ (Reg.L rl 8 → ∃ kh dh vh zh, u69 = .tuple #[.agg #[.slice kh key.length dh, .int .i64 1, .int .i64 (n : Int), .int .u64 (ub : Int), .string ms, .int .i64 (n : Int)], .slice vh 1 zh, .nilIface] ∧ Byts W kh dh key ∧ Byts W vh zh [q]) ∧ (Reg.L rl 9 → ¬ Reg.L rl 13 → ∃ kh dh, u78 = .agg #[.slice kh key.length dh, .int .i64 1, .int .i64 (n : Int), .int .u64 (ub : Int), .string ms, .int .i64 (n : Int)] ∧ Byts W kh dh key) ∧ (Reg.L rl 10 → ¬ Reg.L rl 14 → ∃ vh zh, u79 = .slice vh 1 zh ∧ Byts W vh zh [q]) ∧ (Reg.L rl 11 → ¬ Reg.L rl 15 → u80 = .nilIface) ∧ (Reg.L rl 12 → ¬ Reg.L rl 13 → ∃ gh, u12 = .pointer (some ⟨gh, 0, none⟩) ∧ w5.heap.size ≤ gh ∧ W.heap[gh]? = some (.cells #[.slice none 0 0, .int .i64 0, .int .i64 0, .int .u64 0, .string ⟨#[]⟩, .int .i64 0] 31)) ∧ (Reg.L rl 13 → ∃ gh kh dh, u12 = .pointer (some ⟨gh, 0, none⟩) ∧ W.heap[gh]? = some (.cells #[.slice kh key.length dh, .int .i64 1, .int .i64 (n : Int), .int .u64 (ub : Int), .string ms, .int .i64 (n : Int)] 31) ∧ Byts W kh dh key ∧ w5.heap.size ≤ gh) ∧ (Reg.L rl 14 → ∃ vh zh, u13 = .slice vh 1 zh ∧ Byts W vh zh [q]) ∧ (Reg.L rl 15 → u14 = .nilIface)) ?_ ?_ ?_
            · exact ⟨_, _, _, _, _, _, _, _, _, _, _, _, _, _, _, (Reg.over_self _ [12, 13, 14, 69, 70, 71, 72, 73, 74, 75, 76, 77, 78, 79, 80]).symm, REGB.out.drew, fun h => (Reg.L_none h).elim, fun h => (Reg.L_none h).elim, fun h => (Reg.L_none h).elim, fun h => (Reg.L_none h).elim, fun h => (Reg.L_none h).elim, fun h => (Reg.L_none h).elim, fun h => (Reg.L_none h).elim, fun h => (Reg.L_none h).elim, fun h => (Reg.L_none h).elim, fun h => (Reg.L_none h).elim, fun h => (Reg.L_none h).elim, fun h => (Reg.L_none h).elim, fun h => (Reg.L_none h).elim, fun h => (Reg.L_none h).elim, fun h => (Reg.L_none h).elim, fun h => (Reg.L_none h).elim⟩
            · intro rl ra W ri hl hD hJ hi
              obtain ⟨u12, u13, u14, u69, u70, u71, u72, u73, u74, u75, u76, u77, u78, u79, u80, hA, HB, F0, F1, F2, F3, F4, F5, F6, F7, F8, F9, F10, F11, F12, F13, F14, F15⟩ := hJ
              simp only [Reg.over, List.foldl_cons, List.foldl_nil, List.setIfInBounds_toArray, List.set_cons_zero, List.set_cons_succ] at hA
              subst hA
              have hN : rl.size = 16 := hl
              have hlt' : ri < 16 := (Reg.turn hi).2
              have hcs : ri = 0 ∨ ri = 1 ∨ ri = 2 ∨ ri = 3 ∨ ri = 4 ∨ ri = 5 ∨ ri = 6 ∨ ri = 7 ∨ ri = 8 ∨ ri = 9 ∨ ri = 10 ∨ ri = 11 ∨ ri = 12 ∨ ri = 13 ∨ ri = 14 ∨ ri = 15 := by omega
              clear hlt'
              rcases hcs with rfl | rfl | rfl | rfl | rfl | rfl | rfl | rfl | rfl | rfl | rfl | rfl | rfl | rfl | rfl | rfl
              · have tn := (Reg.turn hi).1
                refine wpOp_step rfl ?_
                intro K' hK
                clear hi
                obtain ⟨c0, c1, c2, c3, c4, c5⟩ := cells6 (blk X6.out HB)
                go_simp
                clear c0 c1 c2 c3 c4 c5
                refine hK _ _ ⟨(u12), (u13), (u14), (u69), (.agg #[.slice kx key.length kd, .int .i64 1, .int .i64 s.top, .int .u64 (s.bits : Int), .string who, .int .i64 s.top]), (u71), (u72), (u73), (u74), (u75), (u76), (u77), (u78), (u79), (u80), (by kernel_rfl), HB, fun _ _ => rfl,
                    fun h hn => F1 (Reg.set_ne (by decide) h) (fun h' => hn (Reg.no_set h' (by rw [hN]; decide))),
                    fun h hn => F2 (Reg.set_ne (by decide) h) (fun h' => hn (Reg.no_set h' (by rw [hN]; decide))),
                    fun h hn => F3 (Reg.set_ne (by decide) h) (fun h' => hn (Reg.no_set h' (by rw [hN]; decide))),
                    fun h hn => F4 (Reg.set_ne (by decide) h) (fun h' => hn (Reg.no_set h' (by rw [hN]; decide))),
                    fun h hn => F5 (Reg.set_ne (by decide) h) (fun h' => hn (Reg.no_set h' (by rw [hN]; decide))),
                    fun h hn => F6 (Reg.set_ne (by decide) h) (fun h' => hn (Reg.no_set h' (by rw [hN]; decide))),
                    fun h hn => F7 (Reg.set_ne (by decide) h) (fun h' => hn (Reg.no_set h' (by rw [hN]; decide))),
                    fun h => F8 (Reg.set_ne (by decide) h),
                    fun h hn => F9 (Reg.set_ne (by decide) h) (fun h' => hn (Reg.no_set h' (by rw [hN]; decide))),
                    fun h hn => F10 (Reg.set_ne (by decide) h) (fun h' => hn (Reg.no_set h' (by rw [hN]; decide))),
                    fun h hn => F11 (Reg.set_ne (by decide) h) (fun h' => hn (Reg.no_set h' (by rw [hN]; decide))),
                    fun h hn => F12 (Reg.set_ne (by decide) h) (fun h' => hn (Reg.no_set h' (by rw [hN]; decide))),
                    fun h => F13 (Reg.set_ne (by decide) h),
                    fun h => F14 (Reg.set_ne (by decide) h),
                    fun h => F15 (Reg.set_ne (by decide) h)⟩
              · have tn := (Reg.turn hi).1
                refine wpOp_step rfl ?_
                intro K' hK
                clear hi
                go_simp
                refine hK _ _ ⟨(u12), (u13), (u14), (u69), (u70), (.slice (some ⟨lg, lo, none⟩) l.length lc), (u72), (u73), (u74), (u75), (u76), (u77), (u78), (u79), (u80), (by kernel_rfl), HB, fun h hn => F0 (Reg.set_ne (by decide) h) (fun h' => hn (Reg.no_set h' (by rw [hN]; decide))),
                    fun _ _ => rfl,
                    fun h hn => F2 (Reg.set_ne (by decide) h) (fun h' => hn (Reg.no_set h' (by rw [hN]; decide))),
                    fun h hn => F3 (Reg.set_ne (by decide) h) (fun h' => hn (Reg.no_set h' (by rw [hN]; decide))),
                    fun h hn => F4 (Reg.set_ne (by decide) h) (fun h' => hn (Reg.no_set h' (by rw [hN]; decide))),
                    fun h hn => F5 (Reg.set_ne (by decide) h) (fun h' => hn (Reg.no_set h' (by rw [hN]; decide))),
                    fun h hn => F6 (Reg.set_ne (by decide) h) (fun h' => hn (Reg.no_set h' (by rw [hN]; decide))),
                    fun h hn => F7 (Reg.set_ne (by decide) h) (fun h' => hn (Reg.no_set h' (by rw [hN]; decide))),
                    fun h => F8 (Reg.set_ne (by decide) h),
                    fun h hn => F9 (Reg.set_ne (by decide) h) (fun h' => hn (Reg.no_set h' (by rw [hN]; decide))),
                    fun h hn => F10 (Reg.set_ne (by decide) h) (fun h' => hn (Reg.no_set h' (by rw [hN]; decide))),
                    fun h hn => F11 (Reg.set_ne (by decide) h) (fun h' => hn (Reg.no_set h' (by rw [hN]; decide))),
                    fun h hn => F12 (Reg.set_ne (by decide) h) (fun h' => hn (Reg.no_set h' (by rw [hN]; decide))),
                    fun h => F13 (Reg.set_ne (by decide) h),
                    fun h => F14 (Reg.set_ne (by decide) h),
                    fun h => F15 (Reg.set_ne (by decide) h)⟩
              · have tn := (Reg.turn hi).1
                refine wpOp_step rfl ?_
                intro K' hK
                clear hi
                go_simp
                refine hK _ _ ⟨(u12), (u13), (u14), (u69), (u70), (u71), (.int .i64 (q : Int)), (u73), (u74), (u75), (u76), (u77), (u78), (u79), (u80), (by kernel_rfl), HB, fun h hn => F0 (Reg.set_ne (by decide) h) (fun h' => hn (Reg.no_set h' (by rw [hN]; decide))),
                    fun h hn => F1 (Reg.set_ne (by decide) h) (fun h' => hn (Reg.no_set h' (by rw [hN]; decide))),
                    fun _ _ => rfl,
                    fun h hn => F3 (Reg.set_ne (by decide) h) (fun h' => hn (Reg.no_set h' (by rw [hN]; decide))),
                    fun h hn => F4 (Reg.set_ne (by decide) h) (fun h' => hn (Reg.no_set h' (by rw [hN]; decide))),
                    fun h hn => F5 (Reg.set_ne (by decide) h) (fun h' => hn (Reg.no_set h' (by rw [hN]; decide))),
                    fun h hn => F6 (Reg.set_ne (by decide) h) (fun h' => hn (Reg.no_set h' (by rw [hN]; decide))),
                    fun h hn => F7 (Reg.set_ne (by decide) h) (fun h' => hn (Reg.no_set h' (by rw [hN]; decide))),
                    fun h => F8 (Reg.set_ne (by decide) h),
                    fun h hn => F9 (Reg.set_ne (by decide) h) (fun h' => hn (Reg.no_set h' (by rw [hN]; decide))),
                    fun h hn => F10 (Reg.set_ne (by decide) h) (fun h' => hn (Reg.no_set h' (by rw [hN]; decide))),
                    fun h hn => F11 (Reg.set_ne (by decide) h) (fun h' => hn (Reg.no_set h' (by rw [hN]; decide))),
                    fun h hn => F12 (Reg.set_ne (by decide) h) (fun h' => hn (Reg.no_set h' (by rw [hN]; decide))),
                    fun h => F13 (Reg.set_ne (by decide) h),
                    fun h => F14 (Reg.set_ne (by decide) h),
                    fun h => F15 (Reg.set_ne (by decide) h)⟩
              · have tn := (Reg.turn hi).1
                obtain rfl := F1 (Reg.dep hi (by kernel_rfl)) tn
                obtain rfl := F2 (Reg.dep hi (by kernel_rfl)) tn
                refine wpOp_step rfl ?_
                intro K' hK
                clear hi
                go_simp
                refine hK _ _ ⟨(u12), (u13), (u14), (u69), (u70), (.slice (some ⟨lg, lo, none⟩) l.length lc), (.int .i64 (q : Int)), (.pointer (some ⟨lg, lo + q * 3, none⟩)), (u74), (u75), (u76), (u77), (u78), (u79), (u80), (by kernel_rfl), HB, fun h hn => F0 (Reg.set_ne (by decide) h) (fun h' => hn (Reg.no_set h' (by rw [hN]; decide))),
                    fun _ h => (h (Reg.set_self (by rw [hN]; decide))).elim,
                    fun _ h => (h (Reg.set_self (by rw [hN]; decide))).elim,
                    fun _ _ => rfl,
                    fun h hn => F4 (Reg.set_ne (by decide) h) (fun h' => hn (Reg.no_set h' (by rw [hN]; decide))),
                    fun h hn => F5 (Reg.set_ne (by decide) h) (fun h' => hn (Reg.no_set h' (by rw [hN]; decide))),
                    fun h hn => F6 (Reg.set_ne (by decide) h) (fun h' => hn (Reg.no_set h' (by rw [hN]; decide))),
                    fun h hn => F7 (Reg.set_ne (by decide) h) (fun h' => hn (Reg.no_set h' (by rw [hN]; decide))),
                    fun h => F8 (Reg.set_ne (by decide) h),
                    fun h hn => F9 (Reg.set_ne (by decide) h) (fun h' => hn (Reg.no_set h' (by rw [hN]; decide))),
                    fun h hn => F10 (Reg.set_ne (by decide) h) (fun h' => hn (Reg.no_set h' (by rw [hN]; decide))),
                    fun h hn => F11 (Reg.set_ne (by decide) h) (fun h' => hn (Reg.no_set h' (by rw [hN]; decide))),
                    fun h hn => F12 (Reg.set_ne (by decide) h) (fun h' => hn (Reg.no_set h' (by rw [hN]; decide))),
                    fun h => F13 (Reg.set_ne (by decide) h),
                    fun h => F14 (Reg.set_ne (by decide) h),
                    fun h => F15 (Reg.set_ne (by decide) h)⟩
              · have tn := (Reg.turn hi).1
                obtain rfl := F3 (Reg.dep hi (by kernel_rfl)) tn
                refine wpOp_step rfl ?_
                intro K' hK
                clear hi
                go_simp
                refine hK _ _ ⟨(u12), (u13), (u14), (u69), (u70), (u71), (u72), (.pointer (some ⟨lg, lo + q * 3, none⟩)), (.pointer (some ⟨lg, lo + q * 3 + 1, none⟩)), (u75), (u76), (u77), (u78), (u79), (u80), (by kernel_rfl), HB, fun h hn => F0 (Reg.set_ne (by decide) h) (fun h' => hn (Reg.no_set h' (by rw [hN]; decide))),
                    fun h hn => F1 (Reg.set_ne (by decide) h) (fun h' => hn (Reg.no_set h' (by rw [hN]; decide))),
                    fun h hn => F2 (Reg.set_ne (by decide) h) (fun h' => hn (Reg.no_set h' (by rw [hN]; decide))),
                    fun _ h => (h (Reg.set_self (by rw [hN]; decide))).elim,
                    fun _ _ => rfl,
                    fun h hn => F5 (Reg.set_ne (by decide) h) (fun h' => hn (Reg.no_set h' (by rw [hN]; decide))),
                    fun h hn => F6 (Reg.set_ne (by decide) h) (fun h' => hn (Reg.no_set h' (by rw [hN]; decide))),
                    fun h hn => F7 (Reg.set_ne (by decide) h) (fun h' => hn (Reg.no_set h' (by rw [hN]; decide))),
                    fun h => F8 (Reg.set_ne (by decide) h),
                    fun h hn => F9 (Reg.set_ne (by decide) h) (fun h' => hn (Reg.no_set h' (by rw [hN]; decide))),
                    fun h hn => F10 (Reg.set_ne (by decide) h) (fun h' => hn (Reg.no_set h' (by rw [hN]; decide))),
                    fun h hn => F11 (Reg.set_ne (by decide) h) (fun h' => hn (Reg.no_set h' (by rw [hN]; decide))),
                    fun h hn => F12 (Reg.set_ne (by decide) h) (fun h' => hn (Reg.no_set h' (by rw [hN]; decide))),
                    fun h => F13 (Reg.set_ne (by decide) h),
                    fun h => F14 (Reg.set_ne (by decide) h),
                    fun h => F15 (Reg.set_ne (by decide) h)⟩
              · have tn := (Reg.turn hi).1
                obtain rfl := F4 (Reg.dep hi (by kernel_rfl)) tn
                refine wpOp_step rfl ?_
                intro K' hK
                clear hi
                have cs := (HB.cell (p := ⟨lg, lo + q * 3 + 1, none⟩) (block_lt_of_cell d1)).trans d1
                go_simp
                clear cs
                refine hK _ _ ⟨(u12), (u13), (u14), (u69), (u70), (u71), (u72), (u73), (.pointer (some ⟨lg, lo + q * 3 + 1, none⟩)), (.string ms), (u76), (u77), (u78), (u79), (u80), (by kernel_rfl), HB, fun h hn => F0 (Reg.set_ne (by decide) h) (fun h' => hn (Reg.no_set h' (by rw [hN]; decide))),
                    fun h hn => F1 (Reg.set_ne (by decide) h) (fun h' => hn (Reg.no_set h' (by rw [hN]; decide))),
                    fun h hn => F2 (Reg.set_ne (by decide) h) (fun h' => hn (Reg.no_set h' (by rw [hN]; decide))),
                    fun h hn => F3 (Reg.set_ne (by decide) h) (fun h' => hn (Reg.no_set h' (by rw [hN]; decide))),
                    fun _ h => (h (Reg.set_self (by rw [hN]; decide))).elim,
                    fun _ _ => rfl,
                    fun h hn => F6 (Reg.set_ne (by decide) h) (fun h' => hn (Reg.no_set h' (by rw [hN]; decide))),
                    fun h hn => F7 (Reg.set_ne (by decide) h) (fun h' => hn (Reg.no_set h' (by rw [hN]; decide))),
                    fun h => F8 (Reg.set_ne (by decide) h),
                    fun h hn => F9 (Reg.set_ne (by decide) h) (fun h' => hn (Reg.no_set h' (by rw [hN]; decide))),
                    fun h hn => F10 (Reg.set_ne (by decide) h) (fun h' => hn (Reg.no_set h' (by rw [hN]; decide))),
                    fun h hn => F11 (Reg.set_ne (by decide) h) (fun h' => hn (Reg.no_set h' (by rw [hN]; decide))),
                    fun h hn => F12 (Reg.set_ne (by decide) h) (fun h' => hn (Reg.no_set h' (by rw [hN]; decide))),
                    fun h => F13 (Reg.set_ne (by decide) h),
                    fun h => F14 (Reg.set_ne (by decide) h),
                    fun h => F15 (Reg.set_ne (by decide) h)⟩
              · have tn := (Reg.turn hi).1
                refine wpOp_step rfl ?_
                intro K' hK
                clear hi
                go_simp
                refine hK _ _ ⟨(u12), (u13), (u14), (u69), (u70), (u71), (u72), (u73), (u74), (u75), (.slice vb 27 cb), (u77), (u78), (u79), (u80), (by kernel_rfl), HB, fun h hn => F0 (Reg.set_ne (by decide) h) (fun h' => hn (Reg.no_set h' (by rw [hN]; decide))),
                    fun h hn => F1 (Reg.set_ne (by decide) h) (fun h' => hn (Reg.no_set h' (by rw [hN]; decide))),
                    fun h hn => F2 (Reg.set_ne (by decide) h) (fun h' => hn (Reg.no_set h' (by rw [hN]; decide))),
                    fun h hn => F3 (Reg.set_ne (by decide) h) (fun h' => hn (Reg.no_set h' (by rw [hN]; decide))),
                    fun h hn => F4 (Reg.set_ne (by decide) h) (fun h' => hn (Reg.no_set h' (by rw [hN]; decide))),
                    fun h hn => F5 (Reg.set_ne (by decide) h) (fun h' => hn (Reg.no_set h' (by rw [hN]; decide))),
                    fun _ _ => rfl,
                    fun h hn => F7 (Reg.set_ne (by decide) h) (fun h' => hn (Reg.no_set h' (by rw [hN]; decide))),
                    fun h => F8 (Reg.set_ne (by decide) h),
                    fun h hn => F9 (Reg.set_ne (by decide) h) (fun h' => hn (Reg.no_set h' (by rw [hN]; decide))),
                    fun h hn => F10 (Reg.set_ne (by decide) h) (fun h' => hn (Reg.no_set h' (by rw [hN]; decide))),
                    fun h hn => F11 (Reg.set_ne (by decide) h) (fun h' => hn (Reg.no_set h' (by rw [hN]; decide))),
                    fun h hn => F12 (Reg.set_ne (by decide) h) (fun h' => hn (Reg.no_set h' (by rw [hN]; decide))),
                    fun h => F13 (Reg.set_ne (by decide) h),
                    fun h => F14 (Reg.set_ne (by decide) h),
                    fun h => F15 (Reg.set_ne (by decide) h)⟩
              · have tn := (Reg.turn hi).1
                obtain rfl := F0 (Reg.dep hi (by kernel_rfl)) tn
                obtain rfl := F5 (Reg.dep hi (by kernel_rfl)) tn
                obtain rfl := F6 (Reg.dep hi (by kernel_rfl)) tn
                refine wpOp_step rfl ?_
                intro K' hK
                clear hi
                go_simp
                refine (HC.out W HB).mono ?_
                rintro e W2 ⟨kh, dh, vh, zh, rfl, hkb, ho, HST⟩
                refine hK _ _ ⟨(u12), (u13), (u14), (u69), (.agg #[.slice kx key.length kd, .int .i64 1, .int .i64 s.top, .int .u64 (s.bits : Int), .string who, .int .i64 s.top]), (u71), (u72), (u73), (u74), (.string ms), (.slice vb 27 cb), (.tuple #[.agg #[.slice kh key.length dh, .int .i64 1, .int .i64 (n : Int), .int .u64 (ub : Int), .string ms, .int .i64 (n : Int)], .slice vh 1 zh, .nilIface]), (u78), (u79), (u80), (by kernel_rfl), (kept_trans HB HST), fun _ h => (h (Reg.set_self (by rw [hN]; decide))).elim,
                    fun h hn => F1 (Reg.set_ne (by decide) h) (fun h' => hn (Reg.no_set h' (by rw [hN]; decide))),
                    fun h hn => F2 (Reg.set_ne (by decide) h) (fun h' => hn (Reg.no_set h' (by rw [hN]; decide))),
                    fun h hn => F3 (Reg.set_ne (by decide) h) (fun h' => hn (Reg.no_set h' (by rw [hN]; decide))),
                    fun h hn => F4 (Reg.set_ne (by decide) h) (fun h' => hn (Reg.no_set h' (by rw [hN]; decide))),
                    fun _ h => (h (Reg.set_self (by rw [hN]; decide))).elim,
                    fun _ h => (h (Reg.set_self (by rw [hN]; decide))).elim,
                    fun _ _ => ⟨_, _, _, _, rfl, hkb, byts_own ho HB8.out⟩,
                    fun h => (let ⟨kh, dh, vh, zh, p0, p1, p2⟩ := F8 (Reg.set_ne (by decide) h); ⟨kh, dh, vh, zh, p0, (p1.below HST), (p2.below HST)⟩),
                    fun h hn => (let ⟨kh, dh, p0, p1⟩ := F9 (Reg.set_ne (by decide) h) (fun h' => hn (Reg.no_set h' (by rw [hN]; decide))); ⟨kh, dh, p0, (p1.below HST)⟩),
                    fun h hn => (let ⟨vh, zh, p0, p1⟩ := F10 (Reg.set_ne (by decide) h) (fun h' => hn (Reg.no_set h' (by rw [hN]; decide))); ⟨vh, zh, p0, (p1.below HST)⟩),
                    fun h hn => F11 (Reg.set_ne (by decide) h) (fun h' => hn (Reg.no_set h' (by rw [hN]; decide))),
                    fun h hn => (let ⟨gh, p0, p1, p2⟩ := F12 (Reg.set_ne (by decide) h) (fun h' => hn (Reg.no_set h' (by rw [hN]; decide))); ⟨gh, p0, p1, (blk p2 HST)⟩),
                    fun h => (let ⟨gh, kh, dh, p0, p1, p2, p3⟩ := F13 (Reg.set_ne (by decide) h); ⟨gh, kh, dh, p0, (blk p1 HST), (p2.below HST), p3⟩),
                    fun h => (let ⟨vh, zh, p0, p1⟩ := F14 (Reg.set_ne (by decide) h); ⟨vh, zh, p0, (p1.below HST)⟩),
                    fun h => F15 (Reg.set_ne (by decide) h)⟩
              · have tn := (Reg.turn hi).1
                have z := F7 (Reg.dep hi (by kernel_rfl)) tn
                obtain ⟨kh, dh, vh, zh, rfl, e7_1, e7_2⟩ := z
                refine wpOp_step rfl ?_
                intro K' hK
                clear hi
                go_simp
                refine hK _ _ ⟨(u12), (u13), (u14), (.tuple #[.agg #[.slice kh key.length dh, .int .i64 1, .int .i64 (n : Int), .int .u64 (ub : Int), .string ms, .int .i64 (n : Int)], .slice vh 1 zh, .nilIface]), (u70), (u71), (u72), (u73), (u74), (u75), (u76), (.tuple #[.agg #[.slice kh key.length dh, .int .i64 1, .int .i64 (n : Int), .int .u64 (ub : Int), .string ms, .int .i64 (n : Int)], .slice vh 1 zh, .nilIface]), (u78), (u79), (u80), (by kernel_rfl), HB, fun h hn => F0 (Reg.set_ne (by decide) h) (fun h' => hn (Reg.no_set h' (by rw [hN]; decide))),
                    fun h hn => F1 (Reg.set_ne (by decide) h) (fun h' => hn (Reg.no_set h' (by rw [hN]; decide))),
                    fun h hn => F2 (Reg.set_ne (by decide) h) (fun h' => hn (Reg.no_set h' (by rw [hN]; decide))),
                    fun h hn => F3 (Reg.set_ne (by decide) h) (fun h' => hn (Reg.no_set h' (by rw [hN]; decide))),
                    fun h hn => F4 (Reg.set_ne (by decide) h) (fun h' => hn (Reg.no_set h' (by rw [hN]; decide))),
                    fun h hn => F5 (Reg.set_ne (by decide) h) (fun h' => hn (Reg.no_set h' (by rw [hN]; decide))),
                    fun h hn => F6 (Reg.set_ne (by decide) h) (fun h' => hn (Reg.no_set h' (by rw [hN]; decide))),
                    fun _ h => (h (Reg.set_self (by rw [hN]; decide))).elim,
                    fun _ => ⟨_, _, _, _, rfl, e7_1, e7_2⟩,
                    fun h hn => F9 (Reg.set_ne (by decide) h) (fun h' => hn (Reg.no_set h' (by rw [hN]; decide))),
                    fun h hn => F10 (Reg.set_ne (by decide) h) (fun h' => hn (Reg.no_set h' (by rw [hN]; decide))),
                    fun h hn => F11 (Reg.set_ne (by decide) h) (fun h' => hn (Reg.no_set h' (by rw [hN]; decide))),
                    fun h hn => F12 (Reg.set_ne (by decide) h) (fun h' => hn (Reg.no_set h' (by rw [hN]; decide))),
                    fun h => F13 (Reg.set_ne (by decide) h),
                    fun h => F14 (Reg.set_ne (by decide) h),
                    fun h => F15 (Reg.set_ne (by decide) h)⟩
              · have tn := (Reg.turn hi).1
                have z := F8 (Reg.dep hi (by kernel_rfl))
                obtain ⟨kh, dh, vh, zh, rfl, e8_1, e8_2⟩ := z
                refine wpOp_step rfl ?_
                intro K' hK
                clear hi
                go_simp
                refine hK _ _ ⟨(u12), (u13), (u14), (.tuple #[.agg #[.slice kh key.length dh, .int .i64 1, .int .i64 (n : Int), .int .u64 (ub : Int), .string ms, .int .i64 (n : Int)], .slice vh 1 zh, .nilIface]), (u70), (u71), (u72), (u73), (u74), (u75), (u76), (u77), (.agg #[.slice kh key.length dh, .int .i64 1, .int .i64 (n : Int), .int .u64 (ub : Int), .string ms, .int .i64 (n : Int)]), (u79), (u80), (by kernel_rfl), HB, fun h hn => F0 (Reg.set_ne (by decide) h) (fun h' => hn (Reg.no_set h' (by rw [hN]; decide))),
                    fun h hn => F1 (Reg.set_ne (by decide) h) (fun h' => hn (Reg.no_set h' (by rw [hN]; decide))),
                    fun h hn => F2 (Reg.set_ne (by decide) h) (fun h' => hn (Reg.no_set h' (by rw [hN]; decide))),
                    fun h hn => F3 (Reg.set_ne (by decide) h) (fun h' => hn (Reg.no_set h' (by rw [hN]; decide))),
                    fun h hn => F4 (Reg.set_ne (by decide) h) (fun h' => hn (Reg.no_set h' (by rw [hN]; decide))),
                    fun h hn => F5 (Reg.set_ne (by decide) h) (fun h' => hn (Reg.no_set h' (by rw [hN]; decide))),
                    fun h hn => F6 (Reg.set_ne (by decide) h) (fun h' => hn (Reg.no_set h' (by rw [hN]; decide))),
                    fun h hn => F7 (Reg.set_ne (by decide) h) (fun h' => hn (Reg.no_set h' (by rw [hN]; decide))),
                    fun h => F8 (Reg.set_ne (by decide) h),
                    fun _ _ => ⟨_, _, rfl, e8_1⟩,
                    fun h hn => F10 (Reg.set_ne (by decide) h) (fun h' => hn (Reg.no_set h' (by rw [hN]; decide))),
                    fun h hn => F11 (Reg.set_ne (by decide) h) (fun h' => hn (Reg.no_set h' (by rw [hN]; decide))),
                    fun h hn => F12 (Reg.set_ne (by decide) h) (fun h' => hn (Reg.no_set h' (by rw [hN]; decide))),
                    fun h => F13 (Reg.set_ne (by decide) h),
                    fun h => F14 (Reg.set_ne (by decide) h),
                    fun h => F15 (Reg.set_ne (by decide) h)⟩
              · have tn := (Reg.turn hi).1
                have z := F8 (Reg.dep hi (by kernel_rfl))
                obtain ⟨kh, dh, vh, zh, rfl, e8_1, e8_2⟩ := z
                refine wpOp_step rfl ?_
                intro K' hK
                clear hi
                go_simp
                refine hK _ _ ⟨(u12), (u13), (u14), (.tuple #[.agg #[.slice kh key.length dh, .int .i64 1, .int .i64 (n : Int), .int .u64 (ub : Int), .string ms, .int .i64 (n : Int)], .slice vh 1 zh, .nilIface]), (u70), (u71), (u72), (u73), (u74), (u75), (u76), (u77), (u78), (.slice vh 1 zh), (u80), (by kernel_rfl), HB, fun h hn => F0 (Reg.set_ne (by decide) h) (fun h' => hn (Reg.no_set h' (by rw [hN]; decide))),
                    fun h hn => F1 (Reg.set_ne (by decide) h) (fun h' => hn (Reg.no_set h' (by rw [hN]; decide))),
                    fun h hn => F2 (Reg.set_ne (by decide) h) (fun h' => hn (Reg.no_set h' (by rw [hN]; decide))),
                    fun h hn => F3 (Reg.set_ne (by decide) h) (fun h' => hn (Reg.no_set h' (by rw [hN]; decide))),
                    fun h hn => F4 (Reg.set_ne (by decide) h) (fun h' => hn (Reg.no_set h' (by rw [hN]; decide))),
                    fun h hn => F5 (Reg.set_ne (by decide) h) (fun h' => hn (Reg.no_set h' (by rw [hN]; decide))),
                    fun h hn => F6 (Reg.set_ne (by decide) h) (fun h' => hn (Reg.no_set h' (by rw [hN]; decide))),
                    fun h hn => F7 (Reg.set_ne (by decide) h) (fun h' => hn (Reg.no_set h' (by rw [hN]; decide))),
                    fun h => F8 (Reg.set_ne (by decide) h),
                    fun h hn => F9 (Reg.set_ne (by decide) h) (fun h' => hn (Reg.no_set h' (by rw [hN]; decide))),
                    fun _ _ => ⟨_, _, rfl, e8_2⟩,
                    fun h hn => F11 (Reg.set_ne (by decide) h) (fun h' => hn (Reg.no_set h' (by rw [hN]; decide))),
                    fun h hn => F12 (Reg.set_ne (by decide) h) (fun h' => hn (Reg.no_set h' (by rw [hN]; decide))),
                    fun h => F13 (Reg.set_ne (by decide) h),
                    fun h => F14 (Reg.set_ne (by decide) h),
                    fun h => F15 (Reg.set_ne (by decide) h)⟩
              · have tn := (Reg.turn hi).1
                have z := F8 (Reg.dep hi (by kernel_rfl))
                obtain ⟨kh, dh, vh, zh, rfl, e8_1, e8_2⟩ := z
                refine wpOp_step rfl ?_
                intro K' hK
                clear hi
                go_simp
                refine hK _ _ ⟨(u12), (u13), (u14), (.tuple #[.agg #[.slice kh key.length dh, .int .i64 1, .int .i64 (n : Int), .int .u64 (ub : Int), .string ms, .int .i64 (n : Int)], .slice vh 1 zh, .nilIface]), (u70), (u71), (u72), (u73), (u74), (u75), (u76), (u77), (u78), (u79), (.nilIface), (by kernel_rfl), HB, fun h hn => F0 (Reg.set_ne (by decide) h) (fun h' => hn (Reg.no_set h' (by rw [hN]; decide))),
                    fun h hn => F1 (Reg.set_ne (by decide) h) (fun h' => hn (Reg.no_set h' (by rw [hN]; decide))),
                    fun h hn => F2 (Reg.set_ne (by decide) h) (fun h' => hn (Reg.no_set h' (by rw [hN]; decide))),
                    fun h hn => F3 (Reg.set_ne (by decide) h) (fun h' => hn (Reg.no_set h' (by rw [hN]; decide))),
                    fun h hn => F4 (Reg.set_ne (by decide) h) (fun h' => hn (Reg.no_set h' (by rw [hN]; decide))),
                    fun h hn => F5 (Reg.set_ne (by decide) h) (fun h' => hn (Reg.no_set h' (by rw [hN]; decide))),
                    fun h hn => F6 (Reg.set_ne (by decide) h) (fun h' => hn (Reg.no_set h' (by rw [hN]; decide))),
                    fun h hn => F7 (Reg.set_ne (by decide) h) (fun h' => hn (Reg.no_set h' (by rw [hN]; decide))),
                    fun h => F8 (Reg.set_ne (by decide) h),
                    fun h hn => F9 (Reg.set_ne (by decide) h) (fun h' => hn (Reg.no_set h' (by rw [hN]; decide))),
                    fun h hn => F10 (Reg.set_ne (by decide) h) (fun h' => hn (Reg.no_set h' (by rw [hN]; decide))),
                    fun _ _ => rfl,
                    fun h hn => F12 (Reg.set_ne (by decide) h) (fun h' => hn (Reg.no_set h' (by rw [hN]; decide))),
                    fun h => F13 (Reg.set_ne (by decide) h),
                    fun h => F14 (Reg.set_ne (by decide) h),
                    fun h => F15 (Reg.set_ne (by decide) h)⟩
              · have tn := (Reg.turn hi).1
                refine wpOp_step rfl ?_
                intro K' hK
                clear hi
                have HST := al_any W (.cells #[.slice none 0 0, .int .i64 0, .int .i64 0, .int .u64 0, .string ⟨#[]⟩, .int .i64 0] 31)
                go_simp
                refine hK _ _ ⟨(.pointer (some ⟨W.heap.size, 0, none⟩)), (u13), (u14), (u69), (u70), (u71), (u72), (u73), (u74), (u75), (u76), (u77), (u78), (u79), (u80), (by kernel_rfl), (kept_trans HB HST), fun h hn => F0 (Reg.set_ne (by decide) h) (fun h' => hn (Reg.no_set h' (by rw [hN]; decide))),
                    fun h hn => F1 (Reg.set_ne (by decide) h) (fun h' => hn (Reg.no_set h' (by rw [hN]; decide))),
                    fun h hn => F2 (Reg.set_ne (by decide) h) (fun h' => hn (Reg.no_set h' (by rw [hN]; decide))),
                    fun h hn => F3 (Reg.set_ne (by decide) h) (fun h' => hn (Reg.no_set h' (by rw [hN]; decide))),
                    fun h hn => F4 (Reg.set_ne (by decide) h) (fun h' => hn (Reg.no_set h' (by rw [hN]; decide))),
                    fun h hn => F5 (Reg.set_ne (by decide) h) (fun h' => hn (Reg.no_set h' (by rw [hN]; decide))),
                    fun h hn => F6 (Reg.set_ne (by decide) h) (fun h' => hn (Reg.no_set h' (by rw [hN]; decide))),
                    fun h hn => (let ⟨kh, dh, vh, zh, p0, p1, p2⟩ := F7 (Reg.set_ne (by decide) h) (fun h' => hn (Reg.no_set h' (by rw [hN]; decide))); ⟨kh, dh, vh, zh, p0, (p1.below HST), (p2.below HST)⟩),
                    fun h => (let ⟨kh, dh, vh, zh, p0, p1, p2⟩ := F8 (Reg.set_ne (by decide) h); ⟨kh, dh, vh, zh, p0, (p1.below HST), (p2.below HST)⟩),
                    fun h hn => (let ⟨kh, dh, p0, p1⟩ := F9 (Reg.set_ne (by decide) h) (fun h' => hn (Reg.no_set h' (by rw [hN]; decide))); ⟨kh, dh, p0, (p1.below HST)⟩),
                    fun h hn => (let ⟨vh, zh, p0, p1⟩ := F10 (Reg.set_ne (by decide) h) (fun h' => hn (Reg.no_set h' (by rw [hN]; decide))); ⟨vh, zh, p0, (p1.below HST)⟩),
                    fun h hn => F11 (Reg.set_ne (by decide) h) (fun h' => hn (Reg.no_set h' (by rw [hN]; decide))),
                    fun _ _ => ⟨_, rfl, HB.size, heap_alloc_new _ _⟩,
                    fun h => (tn (hD 13 12 (Reg.set_ne (by decide) h) (by kernel_rfl))).elim,
                    fun h => (let ⟨vh, zh, p0, p1⟩ := F14 (Reg.set_ne (by decide) h); ⟨vh, zh, p0, (p1.below HST)⟩),
                    fun h => F15 (Reg.set_ne (by decide) h)⟩
              · have tn := (Reg.turn hi).1
                have z := F9 (Reg.dep hi (by kernel_rfl)) tn
                obtain ⟨kh, dh, rfl, e9_1⟩ := z
                have z := F12 (Reg.dep hi (by kernel_rfl)) tn
                obtain ⟨gh, rfl, e12_1, e12_2⟩ := z
                refine wpOp_step rfl ?_
                intro K' hK
                clear hi
                have HGB := e12_2
                have HNO := Reg.no_u8 HGB (by simp)
                have SF := over6 W _ 31 _ _ _ _ _ _ (.slice kh key.length dh) (.int .i64 1) (.int .i64 (n : Int)) (.int .u64 (ub : Int)) (.string ms) (.int .i64 (n : Int)) HGB
                have HST := SF.2
                obtain ⟨y0, y1, y2, y3, y4, y5⟩ := cells6 HGB
                obtain ⟨f0, f1, f2, f3, f4, f5⟩ := free6 HGB
                go_simp
                clear y0 y1 y2 y3 y4 y5 f0 f1 f2 f3 f4 f5
                refine hK _ _ ⟨(.pointer (some ⟨gh, 0, none⟩)), (u13), (u14), (u69), (u70), (u71), (u72), (u73), (u74), (u75), (u76), (u77), (.agg #[.slice kh key.length dh, .int .i64 1, .int .i64 (n : Int), .int .u64 (ub : Int), .string ms, .int .i64 (n : Int)]), (u79), (u80), (by kernel_rfl), (HB.grown HST HB.size (by intro q hq; injection hq with hq; omega)), fun h hn => F0 (Reg.set_ne (by decide) h) (fun h' => hn (Reg.no_set h' (by rw [hN]; decide))),
                    fun h hn => F1 (Reg.set_ne (by decide) h) (fun h' => hn (Reg.no_set h' (by rw [hN]; decide))),
                    fun h hn => F2 (Reg.set_ne (by decide) h) (fun h' => hn (Reg.no_set h' (by rw [hN]; decide))),
                    fun h hn => F3 (Reg.set_ne (by decide) h) (fun h' => hn (Reg.no_set h' (by rw [hN]; decide))),
                    fun h hn => F4 (Reg.set_ne (by decide) h) (fun h' => hn (Reg.no_set h' (by rw [hN]; decide))),
                    fun h hn => F5 (Reg.set_ne (by decide) h) (fun h' => hn (Reg.no_set h' (by rw [hN]; decide))),
                    fun h hn => F6 (Reg.set_ne (by decide) h) (fun h' => hn (Reg.no_set h' (by rw [hN]; decide))),
                    fun h hn => (let ⟨kh, dh, vh, zh, p0, p1, p2⟩ := F7 (Reg.set_ne (by decide) h) (fun h' => hn (Reg.no_set h' (by rw [hN]; decide))); ⟨kh, dh, vh, zh, p0, (Reg.byts_grown HST HNO p1), (Reg.byts_grown HST HNO p2)⟩),
                    fun h => (let ⟨kh, dh, vh, zh, p0, p1, p2⟩ := F8 (Reg.set_ne (by decide) h); ⟨kh, dh, vh, zh, p0, (Reg.byts_grown HST HNO p1), (Reg.byts_grown HST HNO p2)⟩),
                    fun _ h => (h (Reg.set_self (by rw [hN]; decide))).elim,
                    fun h hn => (let ⟨vh, zh, p0, p1⟩ := F10 (Reg.set_ne (by decide) h) (fun h' => hn (Reg.no_set h' (by rw [hN]; decide))); ⟨vh, zh, p0, (Reg.byts_grown HST HNO p1)⟩),
                    fun h hn => F11 (Reg.set_ne (by decide) h) (fun h' => hn (Reg.no_set h' (by rw [hN]; decide))),
                    fun _ h => (h (Reg.set_self (by rw [hN]; decide))).elim,
                    fun _ => ⟨_, _, _, rfl, SF.1, Reg.byts_grown HST HNO e9_1, e12_1⟩,
                    fun h => (let ⟨vh, zh, p0, p1⟩ := F14 (Reg.set_ne (by decide) h); ⟨vh, zh, p0, (Reg.byts_grown HST HNO p1)⟩),
                    fun h => F15 (Reg.set_ne (by decide) h)⟩
              · have tn := (Reg.turn hi).1
                have z := F10 (Reg.dep hi (by kernel_rfl)) tn
                obtain ⟨vh, zh, rfl, e10_1⟩ := z
                refine wpOp_step rfl ?_
                intro K' hK
                clear hi
                go_simp
                refine hK _ _ ⟨(u12), (.slice vh 1 zh), (u14), (u69), (u70), (u71), (u72), (u73), (u74), (u75), (u76), (u77), (u78), (.slice vh 1 zh), (u80), (by kernel_rfl), HB, fun h hn => F0 (Reg.set_ne (by decide) h) (fun h' => hn (Reg.no_set h' (by rw [hN]; decide))),
                    fun h hn => F1 (Reg.set_ne (by decide) h) (fun h' => hn (Reg.no_set h' (by rw [hN]; decide))),
                    fun h hn => F2 (Reg.set_ne (by decide) h) (fun h' => hn (Reg.no_set h' (by rw [hN]; decide))),
                    fun h hn => F3 (Reg.set_ne (by decide) h) (fun h' => hn (Reg.no_set h' (by rw [hN]; decide))),
                    fun h hn => F4 (Reg.set_ne (by decide) h) (fun h' => hn (Reg.no_set h' (by rw [hN]; decide))),
                    fun h hn => F5 (Reg.set_ne (by decide) h) (fun h' => hn (Reg.no_set h' (by rw [hN]; decide))),
                    fun h hn => F6 (Reg.set_ne (by decide) h) (fun h' => hn (Reg.no_set h' (by rw [hN]; decide))),
                    fun h hn => F7 (Reg.set_ne (by decide) h) (fun h' => hn (Reg.no_set h' (by rw [hN]; decide))),
                    fun h => F8 (Reg.set_ne (by decide) h),
                    fun h hn => F9 (Reg.set_ne (by decide) h) (fun h' => hn (Reg.no_set h' (by rw [hN]; decide))),
                    fun _ h => (h (Reg.set_self (by rw [hN]; decide))).elim,
                    fun h hn => F11 (Reg.set_ne (by decide) h) (fun h' => hn (Reg.no_set h' (by rw [hN]; decide))),
                    fun h hn => F12 (Reg.set_ne (by decide) h) (fun h' => hn (Reg.no_set h' (by rw [hN]; decide))),
                    fun h => F13 (Reg.set_ne (by decide) h),
                    fun _ => ⟨_, _, rfl, e10_1⟩,
                    fun h => F15 (Reg.set_ne (by decide) h)⟩
              · have tn := (Reg.turn hi).1
                obtain rfl := F11 (Reg.dep hi (by kernel_rfl)) tn
                refine wpOp_step rfl ?_
                intro K' hK
                clear hi
                go_simp
                refine hK _ _ ⟨(u12), (u13), (.nilIface), (u69), (u70), (u71), (u72), (u73), (u74), (u75), (u76), (u77), (u78), (u79), (.nilIface), (by kernel_rfl), HB, fun h hn => F0 (Reg.set_ne (by decide) h) (fun h' => hn (Reg.no_set h' (by rw [hN]; decide))),
                    fun h hn => F1 (Reg.set_ne (by decide) h) (fun h' => hn (Reg.no_set h' (by rw [hN]; decide))),
                    fun h hn => F2 (Reg.set_ne (by decide) h) (fun h' => hn (Reg.no_set h' (by rw [hN]; decide))),
                    fun h hn => F3 (Reg.set_ne (by decide) h) (fun h' => hn (Reg.no_set h' (by rw [hN]; decide))),
                    fun h hn => F4 (Reg.set_ne (by decide) h) (fun h' => hn (Reg.no_set h' (by rw [hN]; decide))),
                    fun h hn => F5 (Reg.set_ne (by decide) h) (fun h' => hn (Reg.no_set h' (by rw [hN]; decide))),
                    fun h hn => F6 (Reg.set_ne (by decide) h) (fun h' => hn (Reg.no_set h' (by rw [hN]; decide))),
                    fun h hn => F7 (Reg.set_ne (by decide) h) (fun h' => hn (Reg.no_set h' (by rw [hN]; decide))),
                    fun h => F8 (Reg.set_ne (by decide) h),
                    fun h hn => F9 (Reg.set_ne (by decide) h) (fun h' => hn (Reg.no_set h' (by rw [hN]; decide))),
                    fun h hn => F10 (Reg.set_ne (by decide) h) (fun h' => hn (Reg.no_set h' (by rw [hN]; decide))),
                    fun _ h => (h (Reg.set_self (by rw [hN]; decide))).elim,
                    fun h hn => F12 (Reg.set_ne (by decide) h) (fun h' => hn (Reg.no_set h' (by rw [hN]; decide))),
                    fun h => F13 (Reg.set_ne (by decide) h),
                    fun h => F14 (Reg.set_ne (by decide) h),
                    fun _ => rfl⟩
            intro rl ra w7 hl hJ hr
            obtain ⟨u12, u13, u14, u69, u70, u71, u72, u73, u74, u75, u76, u77, u78, u79, u80, hA, HB, F0, F1, F2, F3, F4, F5, F6, F7, F8, F9, F10, F11, F12, F13, F14, F15⟩ := hJ
            simp only [Reg.over, List.foldl_cons, List.foldl_nil, List.setIfInBounds_toArray, List.set_cons_zero, List.set_cons_succ] at hA
            subst hA
            have AD := Reg.done hl hr (by kernel_rfl)
            obtain ⟨gh, kh, dh, rfl, XH, KH, HGH⟩ := F13 (AD 13 (by decide))
            obtain ⟨vh, zh, rfl, BH⟩ := F14 (AD 14 (by decide))
            obtain rfl := F15 (AD 15 (by decide))
            clear AD hr hl F0 F1 F2 F3 F4 F5 F6 F7 F8 F9 F10 F11 F12 F13 F14 F15
            have BZ := Lib.hid (kept_trans B6.out HB)
            have HSW := Lib.hid (show S < w5.heap.size from Nat.lt_of_lt_of_le (block_lt_of_cell (Win.OwnBs.cell SR.out (i := 0) (by have := HIN.out; omega)).1) B6.out.size)
            have S7 := Lib.hid (own_below SR.out BZ.out)
            have XG := Lib.hid (blk XR.out BZ.out)
            have K7 := kept_hid KR BZ.out
            have d2 := (BZ.out.cell (p := ⟨lg, lo + q * 3 + 2, none⟩) (block_lt_of_cell d2)).trans d2
            have hnl : n < inn.length := by have := HIN.out; have := HN.out.2; omega
            obtain ⟨da, fa⟩ := Win.OwnBs.cell S7.out (i := n) hnl
            rw [HIQ.out] at da
            have SS := Win.OwnBs.set S7.out n true
            have S8 := Lib.hid SS.1
            have X8 := Lib.hid (blk_g XG.out SS.2 (by intro h; injection h with h; have := HGW.out; omega))
            have Y8 := Lib.hid (blk_g XH SS.2 (by intro h; injection h with h; have := HSW.out; have := HGH; omega))
            have KH8 := Lib.hid (Reg.byts_grown SS.2 (bs_no_u8 S7.out) KH)
            have K8 := Lib.hid (K7.out.grown SS.2 K7.out.size (by intro g hg; injection hg with hg; have := HS3.out; omega))
            obtain ⟨bb, bo, rfl, bc⟩ := byts_one BH
            have hgt := HGT.out
            have hn0 : (0 : Int) ≤ (n : Int) := by omega
            have hn6 : (n : Int) < 65536 := by have := HN.out.2; omega
            clear d1 HC KH BH XH XG HB B6 SS
            go_upto_region 21 with (fail)
            clear da fa d2 bc S7 K7
            generalize w7.setCell _ _ = w8 at *
            have d1 := (K8.out.cell (p := ⟨lg, lo + q * 3 + 1, none⟩) (block_lt_of_cell M1.out)).trans M1.out
            obtain ⟨y0, y1, y2, y3, y4, y5⟩ := cells6 Y8.out
            obtain ⟨c0, c1, c2, c3, c4, c5⟩ := cells6 X8.out
            obtain ⟨f0, f1, f2, f3, f4, f5⟩ := free6 X8.out
            have SF := Lib.hid (over6 w8 G 31 _ _ _ _ _ _ (.slice kh key.length dh) (.int .i64 1) (.int .i64 (n : Int)) (.int .u64 (ub : Int)) (.string ms) (.int .i64 (n : Int)) X8.out)
            have X9 := Lib.hid SF.out.1
            have K9 := Lib.hid (K8.out.grown SF.out.2 K8.out.size (by intro g hg; injection hg with hg; have := HG2.out; omega))
            have S9 := Lib.hid (show Win.OwnBs _ S (.slice (some ⟨S, 0, none⟩) 65536 65536) (inn.set n true) from own_other S8.out SF.out.2 HGW.out)
            have KH9 := Lib.hid (Reg.byts_grown SF.out.2 (Reg.no_u8 X8.out (by simp)) KH8.out)
            go_upto_region 25 with (fail)
            clear y0 y1 y2 y3 y4 y5 c0 c1 c2 c3 c4 c5 f0 f1 f2 f3 f4 f5 SF X8 Y8 S8 K8 KH8 d1
            generalize (((((w8.setCell _ _).setCell _ _).setCell _ _).setCell _ _).setCell _ _).setCell _ _ = w9 at *
            obtain ⟨c0, c1, c2, c3, c4, c5⟩ := cells6 X9.out
            have hpe := fun W => run_neqP ms (n : Int) W
            have eii : wrap64 ((q : Int) + 1) = (q : Int) + 1 := by have := HLT.out; have := HBL.out; rw [IntWalk.wrap64_in] <;> omega
            go_wp2_with fail
            go_roundg (l.length + 1 - (q + 1))
            case measure => have := HLT.out; omega
            case rel => exact ⟨q + 1, ⟨(n : Int), ub⟩, inn.set n true, ms, kh, dh, HLT.out, rfl, by first | exact congrArg (Value.int .i64) eii | rfl | go_num, rfl, rfl, Lib.hid hcm, Lib.hid (by rw [List.length_set]; exact HIN.out), S9, X9, KH9, K9⟩
          · simp only [if_neg hgt] at HC htp
            obtain ⟨ut, ub⟩ := u
            simp only at htp HC
            subst htp
            have HIQ := Lib.hid hin
            have HGT := Lib.hid hgt
            clear hin hgt
            refine Reg.wp_region_inv (by kernel_rfl) (fun A0 rl ra W => ∃ (u12 u13 u14 u69 u70 u71 u72 u73 u74 u75 u76 u77 u78 u79 u80 : Value), ra = Reg.over A0 [(12, u12), (13, u13), (14, u14), (69, u69), (70, u70), (71, u71), (72, u72), (73, u73), (74, u74), (75, u75), (76, u76), (77, u77), (78, u78), (79, u79), (80, u80)] ∧ Below w5.heap.size w5 W ∧ (Reg.L rl 0 → ¬ Reg.L rl 7 → u70 = .agg #[.slice kx key.length kd, .int .i64 1, .int .i64 s.top, .int .u64 (s.bits : Int), .string who, .int .i64 s.top]) ∧ (Reg.L rl 1 → ¬ Reg.L rl 3 → u71 = .slice (some ⟨lg, lo, none⟩) l.length lc) ∧ (Reg.L rl 2 → ¬ Reg.L rl 3 → u72 = .int .i64 (q : Int)) ∧ (Reg.L rl 3 → ¬ Reg.L rl 4 → u73 = .pointer (some ⟨lg, lo + q * 3, none⟩)) ∧ (Reg.L rl 4 → ¬ Reg.L rl 5 → u74 = .pointer (some ⟨lg, lo + q * 3 + 1, none⟩)) ∧ (Reg.L rl 5 → ¬ Reg.L rl 7 → u75 = .string ms) ∧ (Reg.L rl 6 → ¬ Reg.L rl 7 → u76 = .slice vb 27 cb) ∧ (Reg.L rl 7 → ¬ Reg.L rl 8 → ∃ kh dh vh zh, u77 = .tuple #[.agg #[.slice kh key.length dh, .int .i64 1, .int .i64 s.top, .int .u64 (ub : Int), .string who, .int .i64 s.top], .slice vh 1 zh, .nilIface] ∧ Byts W kh dh key ∧ Byts W vh zh [q]) ∧ (Reg.L rl 8 → ∃ kh dh vh zh, u69 = .tuple #[.agg #[.slice kh key.length dh, .int .i64 1, .int .i64 s.top, .int .u64 (ub : Int), .string who, .int .i64 s.top], .slice vh 1 zh, .nilIface] ∧ Byts W kh dh key ∧ Byts W vh zh [q]) ∧ (Reg.L rl 9 → ¬ Reg.L rl 13 → ∃ kh dh, u78 = .agg #[.slice kh key.length dh, .int .i64 1, .int .i64 s.top, .int .u64 (ub : Int), .string who, .int .i64 s.top] ∧ Byts W kh dh key) ∧ (Reg.L rl 10 → ¬ Reg.L rl 14 → ∃ vh zh, u79 = .slice vh 1 zh ∧ Byts W vh zh [q]) ∧ (Reg.L rl 11 → ¬ Reg.L rl 15 → u80 = .nilIface) ∧ (Reg.L rl 12 → ¬ Reg.L rl 13 → ∃ gh, u12 = .pointer (some ⟨gh, 0, none⟩) ∧ w5.heap.size ≤ gh ∧ W.heap[gh]? = some (.cells #[.slice none 0 0, .int .i64 0, .int .i64 0, .int .u64 0, .string ⟨#[]⟩, .int .i64 0] 31)) ∧ (Reg.L rl 13 → ∃ gh kh dh, u12 = .pointer (some ⟨gh, 0, none⟩) ∧ W.heap[gh]? = some (.cells #[.slice kh key.length dh, .int .i64 1, .int .i64 s.top, .int .u64 (ub : Int), .string who, .int .i64 s.top] 31) ∧ Byts W kh dh key ∧ w5.heap.size ≤ gh) ∧ (Reg.L rl 14 → ∃ vh zh, u13 = .slice vh 1 zh ∧ Byts W vh zh [q]) ∧ (Reg.L rl 15 → u14 = .nilIface)) ?_ ?_ ?_
            · exact ⟨_, _, _, _, _, _, _, _, _, _, _, _, _, _, _, (Reg.over_self _ [12, 13, 14, 69, 70, 71, 72, 73, 74, 75, 76, 77, 78, 79, 80]).symm, REGB.out.drew, fun h => (Reg.L_none h).elim, fun h => (Reg.L_none h).elim, fun h => (Reg.L_none h).elim, fun h => (Reg.L_none h).elim, fun h => (Reg.L_none h).elim, fun h => (Reg.L_none h).elim, fun h => (Reg.L_none h).elim, fun h => (Reg.L_none h).elim, fun h => (Reg.L_none h).elim, fun h => (Reg.L_none h).elim, fun h => (Reg.L_none h).elim, fun h => (Reg.L_none h).elim, fun h => (Reg.L_none h).elim, fun h => (Reg.L_none h).elim, fun h => (Reg.L_none h).elim, fun h => (Reg.L_none h).elim⟩
            · intro rl ra W ri hl hD hJ hi
              obtain ⟨u12, u13, u14, u69, u70, u71, u72, u73, u74, u75, u76, u77, u78, u79, u80, hA, HB, F0, F1, F2, F3, F4, F5, F6, F7, F8, F9, F10, F11, F12, F13, F14, F15⟩ := hJ
              simp only [Reg.over, List.foldl_cons, List.foldl_nil, List.setIfInBounds_toArray, List.set_cons_zero, List.set_cons_succ] at hA
              subst hA
              have hN : rl.size = 16 := hl
              have hlt' : ri < 16 := (Reg.turn hi).2
              have hcs : ri = 0 ∨ ri = 1 ∨ ri = 2 ∨ ri = 3 ∨ ri = 4 ∨ ri = 5 ∨ ri = 6 ∨ ri = 7 ∨ ri = 8 ∨ ri = 9 ∨ ri = 10 ∨ ri = 11 ∨ ri = 12 ∨ ri = 13 ∨ ri = 14 ∨ ri = 15 := by omega
              clear hlt'
              rcases hcs with rfl | rfl | rfl | rfl | rfl | rfl | rfl | rfl | rfl | rfl | rfl | rfl | rfl | rfl | rfl | rfl
              · have tn := (Reg.turn hi).1
                refine wpOp_step rfl ?_
                intro K' hK
                clear hi
                obtain ⟨c0, c1, c2, c3, c4, c5⟩ := cells6 (blk X6.out HB)
                go_simp
                clear c0 c1 c2 c3 c4 c5
                refine hK _ _ ⟨(u12), (u13), (u14), (u69), (.agg #[.slice kx key.length kd, .int .i64 1, .int .i64 s.top, .int .u64 (s.bits : Int), .string who, .int .i64 s.top]), (u71), (u72), (u73), (u74), (u75), (u76), (u77), (u78), (u79), (u80), (by kernel_rfl), HB, fun _ _ => rfl,
                    fun h hn => F1 (Reg.set_ne (by decide) h) (fun h' => hn (Reg.no_set h' (by rw [hN]; decide))),
                    fun h hn => F2 (Reg.set_ne (by decide) h) (fun h' => hn (Reg.no_set h' (by rw [hN]; decide))),
                    fun h hn => F3 (Reg.set_ne (by decide) h) (fun h' => hn (Reg.no_set h' (by rw [hN]; decide))),
                    fun h hn => F4 (Reg.set_ne (by decide) h) (fun h' => hn (Reg.no_set h' (by rw [hN]; decide))),
                    fun h hn => F5 (Reg.set_ne (by decide) h) (fun h' => hn (Reg.no_set h' (by rw [hN]; decide))),
                    fun h hn => F6 (Reg.set_ne (by decide) h) (fun h' => hn (Reg.no_set h' (by rw [hN]; decide))),
                    fun h hn => F7 (Reg.set_ne (by decide) h) (fun h' => hn (Reg.no_set h' (by rw [hN]; decide))),
                    fun h => F8 (Reg.set_ne (by decide) h),
                    fun h hn => F9 (Reg.set_ne (by decide) h) (fun h' => hn (Reg.no_set h' (by rw [hN]; decide))),
                    fun h hn => F10 (Reg.set_ne (by decide) h) (fun h' => hn (Reg.no_set h' (by rw [hN]; decide))),
                    fun h hn => F11 (Reg.set_ne (by decide) h) (fun h' => hn (Reg.no_set h' (by rw [hN]; decide))),
                    fun h hn => F12 (Reg.set_ne (by decide) h) (fun h' => hn (Reg.no_set h' (by rw [hN]; decide))),
                    fun h => F13 (Reg.set_ne (by decide) h),
                    fun h => F14 (Reg.set_ne (by decide) h),
                    fun h => F15 (Reg.set_ne (by decide) h)⟩
              · have tn := (Reg.turn hi).1
                refine wpOp_step rfl ?_
                intro K' hK
                clear hi
                go_simp
                refine hK _ _ ⟨(u12), (u13), (u14), (u69), (u70), (.slice (some ⟨lg, lo, none⟩) l.length lc), (u72), (u73), (u74), (u75), (u76), (u77), (u78), (u79), (u80), (by kernel_rfl), HB, fun h hn => F0 (Reg.set_ne (by decide) h) (fun h' => hn (Reg.no_set h' (by rw [hN]; decide))),
                    fun _ _ => rfl,
                    fun h hn => F2 (Reg.set_ne (by decide) h) (fun h' => hn (Reg.no_set h' (by rw [hN]; decide))),
                    fun h hn => F3 (Reg.set_ne (by decide) h) (fun h' => hn (Reg.no_set h' (by rw [hN]; decide))),
                    fun h hn => F4 (Reg.set_ne (by decide) h) (fun h' => hn (Reg.no_set h' (by rw [hN]; decide))),
                    fun h hn => F5 (Reg.set_ne (by decide) h) (fun h' => hn (Reg.no_set h' (by rw [hN]; decide))),
                    fun h hn => F6 (Reg.set_ne (by decide) h) (fun h' => hn (Reg.no_set h' (by rw [hN]; decide))),
                    fun h hn => F7 (Reg.set_ne (by decide) h) (fun h' => hn (Reg.no_set h' (by rw [hN]; decide))),
                    fun h => F8 (Reg.set_ne (by decide) h),
                    fun h hn => F9 (Reg.set_ne (by decide) h) (fun h' => hn (Reg.no_set h' (by rw [hN]; decide))),
                    fun h hn => F10 (Reg.set_ne (by decide) h) (fun h' => hn (Reg.no_set h' (by rw [hN]; decide))),
                    fun h hn => F11 (Reg.set_ne (by decide) h) (fun h' => hn (Reg.no_set h' (by rw [hN]; decide))),
                    fun h hn => F12 (Reg.set_ne (by decide) h) (fun h' => hn (Reg.no_set h' (by rw [hN]; decide))),
                    fun h => F13 (Reg.set_ne (by decide) h),
                    fun h => F14 (Reg.set_ne (by decide) h),
                    fun h => F15 (Reg.set_ne (by decide) h)⟩
              · have tn := (Reg.turn hi).1
                refine wpOp_step rfl ?_
                intro K' hK
                clear hi
                go_simp
                refine hK _ _ ⟨(u12), (u13), (u14), (u69), (u70), (u71), (.int .i64 (q : Int)), (u73), (u74), (u75), (u76), (u77), (u78), (u79), (u80), (by kernel_rfl), HB, fun h hn => F0 (Reg.set_ne (by decide) h) (fun h' => hn (Reg.no_set h' (by rw [hN]; decide))),
                    fun h hn => F1 (Reg.set_ne (by decide) h) (fun h' => hn (Reg.no_set h' (by rw [hN]; decide))),
                    fun _ _ => rfl,
                    fun h hn => F3 (Reg.set_ne (by decide) h) (fun h' => hn (Reg.no_set h' (by rw [hN]; decide))),
                    fun h hn => F4 (Reg.set_ne (by decide) h) (fun h' => hn (Reg.no_set h' (by rw [hN]; decide))),
                    fun h hn => F5 (Reg.set_ne (by decide) h) (fun h' => hn (Reg.no_set h' (by rw [hN]; decide))),
                    fun h hn => F6 (Reg.set_ne (by decide) h) (fun h' => hn (Reg.no_set h' (by rw [hN]; decide))),
                    fun h hn => F7 (Reg.set_ne (by decide) h) (fun h' => hn (Reg.no_set h' (by rw [hN]; decide))),
                    fun h => F8 (Reg.set_ne (by decide) h),
                    fun h hn => F9 (Reg.set_ne (by decide) h) (fun h' => hn (Reg.no_set h' (by rw [hN]; decide))),
                    fun h hn => F10 (Reg.set_ne (by decide) h) (fun h' => hn (Reg.no_set h' (by rw [hN]; decide))),
                    fun h hn => F11 (Reg.set_ne (by decide) h) (fun h' => hn (Reg.no_set h' (by rw [hN]; decide))),
                    fun h hn => F12 (Reg.set_ne (by decide) h) (fun h' => hn (Reg.no_set h' (by rw [hN]; decide))),
                    fun h => F13 (Reg.set_ne (by decide) h),
                    fun h => F14 (Reg.set_ne (by decide) h),
                    fun h => F15 (Reg.set_ne (by decide) h)⟩
              · have tn := (Reg.turn hi).1
                obtain rfl := F1 (Reg.dep hi (by kernel_rfl)) tn
                obtain rfl := F2 (Reg.dep hi (by kernel_rfl)) tn
                refine wpOp_step rfl ?_
                intro K' hK
                clear hi
                go_simp
                refine hK _ _ ⟨(u12), (u13), (u14), (u69), (u70), (.slice (some ⟨lg, lo, none⟩) l.length lc), (.int .i64 (q : Int)), (.pointer (some ⟨lg, lo + q * 3, none⟩)), (u74), (u75), (u76), (u77), (u78), (u79), (u80), (by kernel_rfl), HB, fun h hn => F0 (Reg.set_ne (by decide) h) (fun h' => hn (Reg.no_set h' (by rw [hN]; decide))),
                    fun _ h => (h (Reg.set_self (by rw [hN]; decide))).elim,
                    fun _ h => (h (Reg.set_self (by rw [hN]; decide))).elim,
                    fun _ _ => rfl,
                    fun h hn => F4 (Reg.set_ne (by decide) h) (fun h' => hn (Reg.no_set h' (by rw [hN]; decide))),
                    fun h hn => F5 (Reg.set_ne (by decide) h) (fun h' => hn (Reg.no_set h' (by rw [hN]; decide))),
                    fun h hn => F6 (Reg.set_ne (by decide) h) (fun h' => hn (Reg.no_set h' (by rw [hN]; decide))),
                    fun h hn => F7 (Reg.set_ne (by decide) h) (fun h' => hn (Reg.no_set h' (by rw [hN]; decide))),
                    fun h => F8 (Reg.set_ne (by decide) h),
                    fun h hn => F9 (Reg.set_ne (by decide) h) (fun h' => hn (Reg.no_set h' (by rw [hN]; decide))),
                    fun h hn => F10 (Reg.set_ne (by decide) h) (fun h' => hn (Reg.no_set h' (by rw [hN]; decide))),
                    fun h hn => F11 (Reg.set_ne (by decide) h) (fun h' => hn (Reg.no_set h' (by rw [hN]; decide))),
                    fun h hn => F12 (Reg.set_ne (by decide) h) (fun h' => hn (Reg.no_set h' (by rw [hN]; decide))),
                    fun h => F13 (Reg.set_ne (by decide) h),
                    fun h => F14 (Reg.set_ne (by decide) h),
                    fun h => F15 (Reg.set_ne (by decide) h)⟩
              · have tn := (Reg.turn hi).1
                obtain rfl := F3 (Reg.dep hi (by kernel_rfl)) tn
                refine wpOp_step rfl ?_
                intro K' hK
                clear hi
                go_simp
                refine hK _ _ ⟨(u12), (u13), (u14), (u69), (u70), (u71), (u72), (.pointer (some ⟨lg, lo + q * 3, none⟩)), (.pointer (some ⟨lg, lo + q * 3 + 1, none⟩)), (u75), (u76), (u77), (u78), (u79), (u80), (by kernel_rfl), HB, fun h hn => F0 (Reg.set_ne (by decide) h) (fun h' => hn (Reg.no_set h' (by rw [hN]; decide))),
                    fun h hn => F1 (Reg.set_ne (by decide) h) (fun h' => hn (Reg.no_set h' (by rw [hN]; decide))),
                    fun h hn => F2 (Reg.set_ne (by decide) h) (fun h' => hn (Reg.no_set h' (by rw [hN]; decide))),
                    fun _ h => (h (Reg.set_self (by rw [hN]; decide))).elim,
                    fun _ _ => rfl,
                    fun h hn => F5 (Reg.set_ne (by decide) h) (fun h' => hn (Reg.no_set h' (by rw [hN]; decide))),
                    fun h hn => F6 (Reg.set_ne (by decide) h) (fun h' => hn (Reg.no_set h' (by rw [hN]; decide))),
                    fun h hn => F7 (Reg.set_ne (by decide) h) (fun h' => hn (Reg.no_set h' (by rw [hN]; decide))),
                    fun h => F8 (Reg.set_ne (by decide) h),
                    fun h hn => F9 (Reg.set_ne (by decide) h) (fun h' => hn (Reg.no_set h' (by rw [hN]; decide))),
                    fun h hn => F10 (Reg.set_ne (by decide) h) (fun h' => hn (Reg.no_set h' (by rw [hN]; decide))),
                    fun h hn => F11 (Reg.set_ne (by decide) h) (fun h' => hn (Reg.no_set h' (by rw [hN]; decide))),
                    fun h hn => F12 (Reg.set_ne (by decide) h) (fun h' => hn (Reg.no_set h' (by rw [hN]; decide))),
                    fun h => F13 (Reg.set_ne (by decide) h),
                    fun h => F14 (Reg.set_ne (by decide) h),
                    fun h => F15 (Reg.set_ne (by decide) h)⟩
              · have tn := (Reg.turn hi).1
                obtain rfl := F4 (Reg.dep hi (by kernel_rfl)) tn
                refine wpOp_step rfl ?_
                intro K' hK
                clear hi
                have cs := (HB.cell (p := ⟨lg, lo + q * 3 + 1, none⟩) (block_lt_of_cell d1)).trans d1
                go_simp
                clear cs
                refine hK _ _ ⟨(u12), (u13), (u14), (u69), (u70), (u71), (u72), (u73), (.pointer (some ⟨lg, lo + q * 3 + 1, none⟩)), (.string ms), (u76), (u77), (u78), (u79), (u80), (by kernel_rfl), HB, fun h hn => F0 (Reg.set_ne (by decide) h) (fun h' => hn (Reg.no_set h' (by rw [hN]; decide))),
                    fun h hn => F1 (Reg.set_ne (by decide) h) (fun h' => hn (Reg.no_set h' (by rw [hN]; decide))),
                    fun h hn => F2 (Reg.set_ne (by decide) h) (fun h' => hn (Reg.no_set h' (by rw [hN]; decide))),
                    fun h hn => F3 (Reg.set_ne (by decide) h) (fun h' => hn (Reg.no_set h' (by rw [hN]; decide))),
                    fun _ h => (h (Reg.set_self (by rw [hN]; decide))).elim,
                    fun _ _ => rfl,
                    fun h hn => F6 (Reg.set_ne (by decide) h) (fun h' => hn (Reg.no_set h' (by rw [hN]; decide))),
                    fun h hn => F7 (Reg.set_ne (by decide) h) (fun h' => hn (Reg.no_set h' (by rw [hN]; decide))),
                    fun h => F8 (Reg.set_ne (by decide) h),
                    fun h hn => F9 (Reg.set_ne (by decide) h) (fun h' => hn (Reg.no_set h' (by rw [hN]; decide))),
                    fun h hn => F10 (Reg.set_ne (by decide) h) (fun h' => hn (Reg.no_set h' (by rw [hN]; decide))),
                    fun h hn => F11 (Reg.set_ne (by decide) h) (fun h' => hn (Reg.no_set h' (by rw [hN]; decide))),
                    fun h hn => F12 (Reg.set_ne (by decide) h) (fun h' => hn (Reg.no_set h' (by rw [hN]; decide))),
                    fun h => F13 (Reg.set_ne (by decide) h),
                    fun h => F14 (Reg.set_ne (by decide) h),
                    fun h => F15 (Reg.set_ne (by decide) h)⟩
              · have tn := (Reg.turn hi).1
                refine wpOp_step rfl ?_
                intro K' hK
                clear hi
                go_simp
                refine hK _ _ ⟨(u12), (u13), (u14), (u69), (u70), (u71), (u72), (u73), (u74), (u75), (.slice vb 27 cb), (u77), (u78), (u79), (u80), (by kernel_rfl), HB, fun h hn => F0 (Reg.set_ne (by decide) h) (fun h' => hn (Reg.no_set h' (by rw [hN]; decide))),
                    fun h hn => F1 (Reg.set_ne (by decide) h) (fun h' => hn (Reg.no_set h' (by rw [hN]; decide))),
                    fun h hn => F2 (Reg.set_ne (by decide) h) (fun h' => hn (Reg.no_set h' (by rw [hN]; decide))),
                    fun h hn => F3 (Reg.set_ne (by decide) h) (fun h' => hn (Reg.no_set h' (by rw [hN]; decide))),
                    fun h hn => F4 (Reg.set_ne (by decide) h) (fun h' => hn (Reg.no_set h' (by rw [hN]; decide))),
                    fun h hn => F5 (Reg.set_ne (by decide) h) (fun h' => hn (Reg.no_set h' (by rw [hN]; decide))),
                    fun _ _ => rfl,
                    fun h hn => F7 (Reg.set_ne (by decide) h) (fun h' => hn (Reg.no_set h' (by rw [hN]; decide))),
                    fun h => F8 (Reg.set_ne (by decide) h),
                    fun h hn => F9 (Reg.set_ne (by decide) h) (fun h' => hn (Reg.no_set h' (by rw [hN]; decide))),
                    fun h hn => F10 (Reg.set_ne (by decide) h) (fun h' => hn (Reg.no_set h' (by rw [hN]; decide))),
                    fun h hn => F11 (Reg.set_ne (by decide) h) (fun h' => hn (Reg.no_set h' (by rw [hN]; decide))),
                    fun h hn => F12 (Reg.set_ne (by decide) h) (fun h' => hn (Reg.no_set h' (by rw [hN]; decide))),
                    fun h => F13 (Reg.set_ne (by decide) h),
                    fun h => F14 (Reg.set_ne (by decide) h),
                    fun h => F15 (Reg.set_ne (by decide) h)⟩
              · have tn := (Reg.turn hi).1
                obtain rfl := F0 (Reg.dep hi (by kernel_rfl)) tn
                obtain rfl := F5 (Reg.dep hi (by kernel_rfl)) tn
                obtain rfl := F6 (Reg.dep hi (by kernel_rfl)) tn
                refine wpOp_step rfl ?_
                intro K' hK
                clear hi
                go_simp
                refine (HC.out W HB).mono ?_
                rintro e W2 ⟨kh, dh, vh, zh, rfl, hkb, ho, HST⟩
                refine hK _ _ ⟨(u12), (u13), (u14), (u69), (.agg #[.slice kx key.length kd, .int .i64 1, .int .i64 s.top, .int .u64 (s.bits : Int), .string who, .int .i64 s.top]), (u71), (u72), (u73), (u74), (.string ms), (.slice vb 27 cb), (.tuple #[.agg #[.slice kh key.length dh, .int .i64 1, .int .i64 s.top, .int .u64 (ub : Int), .string who, .int .i64 s.top], .slice vh 1 zh, .nilIface]), (u78), (u79), (u80), (by kernel_rfl), (kept_trans HB HST), fun _ h => (h (Reg.set_self (by rw [hN]; decide))).elim,
                    fun h hn => F1 (Reg.set_ne (by decide) h) (fun h' => hn (Reg.no_set h' (by rw [hN]; decide))),
                    fun h hn => F2 (Reg.set_ne (by decide) h) (fun h' => hn (Reg.no_set h' (by rw [hN]; decide))),
                    fun h hn => F3 (Reg.set_ne (by decide) h) (fun h' => hn (Reg.no_set h' (by rw [hN]; decide))),
                    fun h hn => F4 (Reg.set_ne (by decide) h) (fun h' => hn (Reg.no_set h' (by rw [hN]; decide))),
                    fun _ h => (h (Reg.set_self (by rw [hN]; decide))).elim,
                    fun _ h => (h (Reg.set_self (by rw [hN]; decide))).elim,
                    fun _ _ => ⟨_, _, _, _, rfl, hkb, byts_own ho HB8.out⟩,
                    fun h => (let ⟨kh, dh, vh, zh, p0, p1, p2⟩ := F8 (Reg.set_ne (by decide) h); ⟨kh, dh, vh, zh, p0, (p1.below HST), (p2.below HST)⟩),
                    fun h hn => (let ⟨kh, dh, p0, p1⟩ := F9 (Reg.set_ne (by decide) h) (fun h' => hn (Reg.no_set h' (by rw [hN]; decide))); ⟨kh, dh, p0, (p1.below HST)⟩),
                    fun h hn => (let ⟨vh, zh, p0, p1⟩ := F10 (Reg.set_ne (by decide) h) (fun h' => hn (Reg.no_set h' (by rw [hN]; decide))); ⟨vh, zh, p0, (p1.below HST)⟩),
                    fun h hn => F11 (Reg.set_ne (by decide) h) (fun h' => hn (Reg.no_set h' (by rw [hN]; decide))),
                    fun h hn => (let ⟨gh, p0, p1, p2⟩ := F12 (Reg.set_ne (by decide) h) (fun h' => hn (Reg.no_set h' (by rw [hN]; decide))); ⟨gh, p0, p1, (blk p2 HST)⟩),
                    fun h => (let ⟨gh, kh, dh, p0, p1, p2, p3⟩ := F13 (Reg.set_ne (by decide) h); ⟨gh, kh, dh, p0, (blk p1 HST), (p2.below HST), p3⟩),
                    fun h => (let ⟨vh, zh, p0, p1⟩ := F14 (Reg.set_ne (by decide) h); ⟨vh, zh, p0, (p1.below HST)⟩),
                    fun h => F15 (Reg.set_ne (by decide) h)⟩
              · have tn := (Reg.turn hi).1
                have z := F7 (Reg.dep hi (by kernel_rfl)) tn
                obtain ⟨kh, dh, vh, zh, rfl, e7_1, e7_2⟩ := z
                refine wpOp_step rfl ?_
                intro K' hK
                clear hi
                go_simp
                refine hK _ _ ⟨(u12), (u13), (u14), (.tuple #[.agg #[.slice kh key.length dh, .int .i64 1, .int .i64 s.top, .int .u64 (ub : Int), .string who, .int .i64 s.top], .slice vh 1 zh, .nilIface]), (u70), (u71), (u72), (u73), (u74), (u75), (u76), (.tuple #[.agg #[.slice kh key.length dh, .int .i64 1, .int .i64 s.top, .int .u64 (ub : Int), .string who, .int .i64 s.top], .slice vh 1 zh, .nilIface]), (u78), (u79), (u80), (by kernel_rfl), HB, fun h hn => F0 (Reg.set_ne (by decide) h) (fun h' => hn (Reg.no_set h' (by rw [hN]; decide))),
                    fun h hn => F1 (Reg.set_ne (by decide) h) (fun h' => hn (Reg.no_set h' (by rw [hN]; decide))),
                    fun h hn => F2 (Reg.set_ne (by decide) h) (fun h' => hn (Reg.no_set h' (by rw [hN]; decide))),
                    fun h hn => F3 (Reg.set_ne (by decide) h) (fun h' => hn (Reg.no_set h' (by rw [hN]; decide))),
                    fun h hn => F4 (Reg.set_ne (by decide) h) (fun h' => hn (Reg.no_set h' (by rw [hN]; decide))),
                    fun h hn => F5 (Reg.set_ne (by decide) h) (fun h' => hn (Reg.no_set h' (by rw [hN]; decide))),
                    fun h hn => F6 (Reg.set_ne (by decide) h) (fun h' => hn (Reg.no_set h' (by rw [hN]; decide))),
                    fun _ h => (h (Reg.set_self (by rw [hN]; decide))).elim,
                    fun _ => ⟨_, _, _, _, rfl, e7_1, e7_2⟩,
                    fun h hn => F9 (Reg.set_ne (by decide) h) (fun h' => hn (Reg.no_set h' (by rw [hN]; decide))),
                    fun h hn => F10 (Reg.set_ne (by decide) h) (fun h' => hn (Reg.no_set h' (by rw [hN]; decide))),
                    fun h hn => F11 (Reg.set_ne (by decide) h) (fun h' => hn (Reg.no_set h' (by rw [hN]; decide))),
                    fun h hn => F12 (Reg.set_ne (by decide) h) (fun h' => hn (Reg.no_set h' (by rw [hN]; decide))),
                    fun h => F13 (Reg.set_ne (by decide) h),
                    fun h => F14 (Reg.set_ne (by decide) h),
                    fun h => F15 (Reg.set_ne (by decide) h)⟩
              · have tn := (Reg.turn hi).1
                have z := F8 (Reg.dep hi (by kernel_rfl))
                obtain ⟨kh, dh, vh, zh, rfl, e8_1, e8_2⟩ := z
                refine wpOp_step rfl ?_
                intro K' hK
                clear hi
                go_simp
                refine hK _ _ ⟨(u12), (u13), (u14), (.tuple #[.agg #[.slice kh key.length dh, .int .i64 1, .int .i64 s.top, .int .u64 (ub : Int), .string who, .int .i64 s.top], .slice vh 1 zh, .nilIface]), (u70), (u71), (u72), (u73), (u74), (u75), (u76), (u77), (.agg #[.slice kh key.length dh, .int .i64 1, .int .i64 s.top, .int .u64 (ub : Int), .string who, .int .i64 s.top]), (u79), (u80), (by kernel_rfl), HB, fun h hn => F0 (Reg.set_ne (by decide) h) (fun h' => hn (Reg.no_set h' (by rw [hN]; decide))),
                    fun h hn => F1 (Reg.set_ne (by decide) h) (fun h' => hn (Reg.no_set h' (by rw [hN]; decide))),
                    fun h hn => F2 (Reg.set_ne (by decide) h) (fun h' => hn (Reg.no_set h' (by rw [hN]; decide))),
                    fun h hn => F3 (Reg.set_ne (by decide) h) (fun h' => hn (Reg.no_set h' (by rw [hN]; decide))),
                    fun h hn => F4 (Reg.set_ne (by decide) h) (fun h' => hn (Reg.no_set h' (by rw [hN]; decide))),
                    fun h hn => F5 (Reg.set_ne (by decide) h) (fun h' => hn (Reg.no_set h' (by rw [hN]; decide))),
                    fun h hn => F6 (Reg.set_ne (by decide) h) (fun h' => hn (Reg.no_set h' (by rw [hN]; decide))),
                    fun h hn => F7 (Reg.set_ne (by decide) h) (fun h' => hn (Reg.no_set h' (by rw [hN]; decide))),
                    fun h => F8 (Reg.set_ne (by decide) h),
                    fun _ _ => ⟨_, _, rfl, e8_1⟩,
                    fun h hn => F10 (Reg.set_ne (by decide) h) (fun h' => hn (Reg.no_set h' (by rw [hN]; decide))),
                    fun h hn => F11 (Reg.set_ne (by decide) h) (fun h' => hn (Reg.no_set h' (by rw [hN]; decide))),
                    fun h hn => F12 (Reg.set_ne (by decide) h) (fun h' => hn (Reg.no_set h' (by rw [hN]; decide))),
                    fun h => F13 (Reg.set_ne (by decide) h),
                    fun h => F14 (Reg.set_ne (by decide) h),
                    fun h => F15 (Reg.set_ne (by decide) h)⟩
              · have tn := (Reg.turn hi).1
                have z := F8 (Reg.dep hi (by kernel_rfl))
                obtain ⟨kh, dh, vh, zh, rfl, e8_1, e8_2⟩ := z
                refine wpOp_step rfl ?_
                intro K' hK
                clear hi
                go_simp
                refine hK _ _ ⟨(u12), (u13), (u14), (.tuple #[.agg #[.slice kh key.length dh, .int .i64 1, .int .i64 s.top, .int .u64 (ub : Int), .string who, .int .i64 s.top], .slice vh 1 zh, .nilIface]), (u70), (u71), (u72), (u73), (u74), (u75), (u76), (u77), (u78), (.slice vh 1 zh), (u80), (by kernel_rfl), HB, fun h hn => F0 (Reg.set_ne (by decide) h) (fun h' => hn (Reg.no_set h' (by rw [hN]; decide))),
                    fun h hn => F1 (Reg.set_ne (by decide) h) (fun h' => hn (Reg.no_set h' (by rw [hN]; decide))),
                    fun h hn => F2 (Reg.set_ne (by decide) h) (fun h' => hn (Reg.no_set h' (by rw [hN]; decide))),
                    fun h hn => F3 (Reg.set_ne (by decide) h) (fun h' => hn (Reg.no_set h' (by rw [hN]; decide))),
                    fun h hn => F4 (Reg.set_ne (by decide) h) (fun h' => hn (Reg.no_set h' (by rw [hN]; decide))),
                    fun h hn => F5 (Reg.set_ne (by decide) h) (fun h' => hn (Reg.no_set h' (by rw [hN]; decide))),
                    fun h hn => F6 (Reg.set_ne (by decide) h) (fun h' => hn (Reg.no_set h' (by rw [hN]; decide))),
                    fun h hn => F7 (Reg.set_ne (by decide) h) (fun h' => hn (Reg.no_set h' (by rw [hN]; decide))),
                    fun h => F8 (Reg.set_ne (by decide) h),
                    fun h hn => F9 (Reg.set_ne (by decide) h) (fun h' => hn (Reg.no_set h' (by rw [hN]; decide))),
                    fun _ _ => ⟨_, _, rfl, e8_2⟩,
                    fun h hn => F11 (Reg.set_ne (by decide) h) (fun h' => hn (Reg.no_set h' (by rw [hN]; decide))),
                    fun h hn => F12 (Reg.set_ne (by decide) h) (fun h' => hn (Reg.no_set h' (by rw [hN]; decide))),
                    fun h => F13 (Reg.set_ne (by decide) h),
                    fun h => F14 (Reg.set_ne (by decide) h),
                    fun h => F15 (Reg.set_ne (by decide) h)⟩
              · have tn := (Reg.turn hi).1
                have z := F8 (Reg.dep hi (by kernel_rfl))
                obtain ⟨kh, dh, vh, zh, rfl, e8_1, e8_2⟩ := z
                refine wpOp_step rfl ?_
                intro K' hK
                clear hi
                go_simp
                refine hK _ _ ⟨(u12), (u13), (u14), (.tuple #[.agg #[.slice kh key.length dh, .int .i64 1, .int .i64 s.top, .int .u64 (ub : Int), .string who, .int .i64 s.top], .slice vh 1 zh, .nilIface]), (u70), (u71), (u72), (u73), (u74), (u75), (u76), (u77), (u78), (u79), (.nilIface), (by kernel_rfl), HB, fun h hn => F0 (Reg.set_ne (by decide) h) (fun h' => hn (Reg.no_set h' (by rw [hN]; decide))),
                    fun h hn => F1 (Reg.set_ne (by decide) h) (fun h' => hn (Reg.no_set h' (by rw [hN]; decide))),
                    fun h hn => F2 (Reg.set_ne (by decide) h) (fun h' => hn (Reg.no_set h' (by rw [hN]; decide))),
                    fun h hn => F3 (Reg.set_ne (by decide) h) (fun h' => hn (Reg.no_set h' (by rw [hN]; decide))),
                    fun h hn => F4 (Reg.set_ne (by decide) h) (fun h' => hn (Reg.no_set h' (by rw [hN]; decide))),
                    fun h hn => F5 (Reg.set_ne (by decide) h) (fun h' => hn (Reg.no_set h' (by rw [hN]; decide))),
                    fun h hn => F6 (Reg.set_ne (by decide) h) (fun h' => hn (Reg.no_set h' (by rw [hN]; decide))),
                    fun h hn => F7 (Reg.set_ne (by decide) h) (fun h' => hn (Reg.no_set h' (by rw [hN]; decide))),
                    fun h => F8 (Reg.set_ne (by decide) h),
                    fun h hn => F9 (Reg.set_ne (by decide) h) (fun h' => hn (Reg.no_set h' (by rw [hN]; decide))),
                    fun h hn => F10 (Reg.set_ne (by decide) h) (fun h' => hn (Reg.no_set h' (by rw [hN]; decide))),
                    fun _ _ => rfl,
                    fun h hn => F12 (Reg.set_ne (by decide) h) (fun h' => hn (Reg.no_set h' (by rw [hN]; decide))),
                    fun h => F13 (Reg.set_ne (by decide) h),
                    fun h => F14 (Reg.set_ne (by decide) h),
                    fun h => F15 (Reg.set_ne (by decide) h)⟩
              · have tn := (Reg.turn hi).1
                refine wpOp_step rfl ?_
                intro K' hK
                clear hi
                have HST := al_any W (.cells #[.slice none 0 0, .int .i64 0, .int .i64 0, .int .u64 0, .string ⟨#[]⟩, .int .i64 0] 31)
                go_simp
                refine hK _ _ ⟨(.pointer (some ⟨W.heap.size, 0, none⟩)), (u13), (u14), (u69), (u70), (u71), (u72), (u73), (u74), (u75), (u76), (u77), (u78), (u79), (u80), (by kernel_rfl), (kept_trans HB HST), fun h hn => F0 (Reg.set_ne (by decide) h) (fun h' => hn (Reg.no_set h' (by rw [hN]; decide))),
                    fun h hn => F1 (Reg.set_ne (by decide) h) (fun h' => hn (Reg.no_set h' (by rw [hN]; decide))),
                    fun h hn => F2 (Reg.set_ne (by decide) h) (fun h' => hn (Reg.no_set h' (by rw [hN]; decide))),
                    fun h hn => F3 (Reg.set_ne (by decide) h) (fun h' => hn (Reg.no_set h' (by rw [hN]; decide))),
                    fun h hn => F4 (Reg.set_ne (by decide) h) (fun h' => hn (Reg.no_set h' (by rw [hN]; decide))),
                    fun h hn => F5 (Reg.set_ne (by decide) h) (fun h' => hn (Reg.no_set h' (by rw [hN]; decide))),
                    fun h hn => F6 (Reg.set_ne (by decide) h) (fun h' => hn (Reg.no_set h' (by rw [hN]; decide))),
                    fun h hn => (let ⟨kh, dh, vh, zh, p0, p1, p2⟩ := F7 (Reg.set_ne (by decide) h) (fun h' => hn (Reg.no_set h' (by rw [hN]; decide))); ⟨kh, dh, vh, zh, p0, (p1.below HST), (p2.below HST)⟩),
                    fun h => (let ⟨kh, dh, vh, zh, p0, p1, p2⟩ := F8 (Reg.set_ne (by decide) h); ⟨kh, dh, vh, zh, p0, (p1.below HST), (p2.below HST)⟩),
                    fun h hn => (let ⟨kh, dh, p0, p1⟩ := F9 (Reg.set_ne (by decide) h) (fun h' => hn (Reg.no_set h' (by rw [hN]; decide))); ⟨kh, dh, p0, (p1.below HST)⟩),
                    fun h hn => (let ⟨vh, zh, p0, p1⟩ := F10 (Reg.set_ne (by decide) h) (fun h' => hn (Reg.no_set h' (by rw [hN]; decide))); ⟨vh, zh, p0, (p1.below HST)⟩),
                    fun h hn => F11 (Reg.set_ne (by decide) h) (fun h' => hn (Reg.no_set h' (by rw [hN]; decide))),
                    fun _ _ => ⟨_, rfl, HB.size, heap_alloc_new _ _⟩,
                    fun h => (tn (hD 13 12 (Reg.set_ne (by decide) h) (by kernel_rfl))).elim,
                    fun h => (let ⟨vh, zh, p0, p1⟩ := F14 (Reg.set_ne (by decide) h); ⟨vh, zh, p0, (p1.below HST)⟩),
                    fun h => F15 (Reg.set_ne (by decide) h)⟩
              · have tn := (Reg.turn hi).1
                have z := F9 (Reg.dep hi (by kernel_rfl)) tn
                obtain ⟨kh, dh, rfl, e9_1⟩ := z
                have z := F12 (Reg.dep hi (by kernel_rfl)) tn
                obtain ⟨gh, rfl, e12_1, e12_2⟩ := z
                refine wpOp_step rfl ?_
                intro K' hK
                clear hi
                have HGB := e12_2
                have HNO := Reg.no_u8 HGB (by simp)
                have SF := over6 W _ 31 _ _ _ _ _ _ (.slice kh key.length dh) (.int .i64 1) (.int .i64 s.top) (.int .u64 (ub : Int)) (.string who) (.int .i64 s.top) HGB
                have HST := SF.2
                obtain ⟨y0, y1, y2, y3, y4, y5⟩ := cells6 HGB
                obtain ⟨f0, f1, f2, f3, f4, f5⟩ := free6 HGB
                go_simp
                clear y0 y1 y2 y3 y4 y5 f0 f1 f2 f3 f4 f5
                refine hK _ _ ⟨(.pointer (some ⟨gh, 0, none⟩)), (u13), (u14), (u69), (u70), (u71), (u72), (u73), (u74), (u75), (u76), (u77), (.agg #[.slice kh key.length dh, .int .i64 1, .int .i64 s.top, .int .u64 (ub : Int), .string who, .int .i64 s.top]), (u79), (u80), (by kernel_rfl), (HB.grown HST HB.size (by intro q hq; injection hq with hq; omega)), fun h hn => F0 (Reg.set_ne (by decide) h) (fun h' => hn (Reg.no_set h' (by rw [hN]; decide))),
                    fun h hn => F1 (Reg.set_ne (by decide) h) (fun h' => hn (Reg.no_set h' (by rw [hN]; decide))),
                    fun h hn => F2 (Reg.set_ne (by decide) h) (fun h' => hn (Reg.no_set h' (by rw [hN]; decide))),
                    fun h hn => F3 (Reg.set_ne (by decide) h) (fun h' => hn (Reg.no_set h' (by rw [hN]; decide))),
                    fun h hn => F4 (Reg.set_ne (by decide) h) (fun h' => hn (Reg.no_set h' (by rw [hN]; decide))),
                    fun h hn => F5 (Reg.set_ne (by decide) h) (fun h' => hn (Reg.no_set h' (by rw [hN]; decide))),
                    fun h hn => F6 (Reg.set_ne (by decide) h) (fun h' => hn (Reg.no_set h' (by rw [hN]; decide))),
                    fun h hn => (let ⟨kh, dh, vh, zh, p0, p1, p2⟩ := F7 (Reg.set_ne (by decide) h) (fun h' => hn (Reg.no_set h' (by rw [hN]; decide))); ⟨kh, dh, vh, zh, p0, (Reg.byts_grown HST HNO p1), (Reg.byts_grown HST HNO p2)⟩),
                    fun h => (let ⟨kh, dh, vh, zh, p0, p1, p2⟩ := F8 (Reg.set_ne (by decide) h); ⟨kh, dh, vh, zh, p0, (Reg.byts_grown HST HNO p1), (Reg.byts_grown HST HNO p2)⟩),
                    fun _ h => (h (Reg.set_self (by rw [hN]; decide))).elim,
                    fun h hn => (let ⟨vh, zh, p0, p1⟩ := F10 (Reg.set_ne (by decide) h) (fun h' => hn (Reg.no_set h' (by rw [hN]; decide))); ⟨vh, zh, p0, (Reg.byts_grown HST HNO p1)⟩),
                    fun h hn => F11 (Reg.set_ne (by decide) h) (fun h' => hn (Reg.no_set h' (by rw [hN]; decide))),
                    fun _ h => (h (Reg.set_self (by rw [hN]; decide))).elim,
                    fun _ => ⟨_, _, _, rfl, SF.1, Reg.byts_grown HST HNO e9_1, e12_1⟩,
                    fun h => (let ⟨vh, zh, p0, p1⟩ := F14 (Reg.set_ne (by decide) h); ⟨vh, zh, p0, (Reg.byts_grown HST HNO p1)⟩),
                    fun h => F15 (Reg.set_ne (by decide) h)⟩
              · have tn := (Reg.turn hi).1
                have z := F10 (Reg.dep hi (by kernel_rfl)) tn
                obtain ⟨vh, zh, rfl, e10_1⟩ := z
                refine wpOp_step rfl ?_
                intro K' hK
                clear hi
                go_simp
                refine hK _ _ ⟨(u12), (.slice vh 1 zh), (u14), (u69), (u70), (u71), (u72), (u73), (u74), (u75), (u76), (u77), (u78), (.slice vh 1 zh), (u80), (by kernel_rfl), HB, fun h hn => F0 (Reg.set_ne (by decide) h) (fun h' => hn (Reg.no_set h' (by rw [hN]; decide))),
                    fun h hn => F1 (Reg.set_ne (by decide) h) (fun h' => hn (Reg.no_set h' (by rw [hN]; decide))),
                    fun h hn => F2 (Reg.set_ne (by decide) h) (fun h' => hn (Reg.no_set h' (by rw [hN]; decide))),
                    fun h hn => F3 (Reg.set_ne (by decide) h) (fun h' => hn (Reg.no_set h' (by rw [hN]; decide))),
                    fun h hn => F4 (Reg.set_ne (by decide) h) (fun h' => hn (Reg.no_set h' (by rw [hN]; decide))),
                    fun h hn => F5 (Reg.set_ne (by decide) h) (fun h' => hn (Reg.no_set h' (by rw [hN]; decide))),
                    fun h hn => F6 (Reg.set_ne (by decide) h) (fun h' => hn (Reg.no_set h' (by rw [hN]; decide))),
                    fun h hn => F7 (Reg.set_ne (by decide) h) (fun h' => hn (Reg.no_set h' (by rw [hN]; decide))),
                    fun h => F8 (Reg.set_ne (by decide) h),
                    fun h hn => F9 (Reg.set_ne (by decide) h) (fun h' => hn (Reg.no_set h' (by rw [hN]; decide))),
                    fun _ h => (h (Reg.set_self (by rw [hN]; decide))).elim,
                    fun h hn => F11 (Reg.set_ne (by decide) h) (fun h' => hn (Reg.no_set h' (by rw [hN]; decide))),
                    fun h hn => F12 (Reg.set_ne (by decide) h) (fun h' => hn (Reg.no_set h' (by rw [hN]; decide))),
                    fun h => F13 (Reg.set_ne (by decide) h),
                    fun _ => ⟨_, _, rfl, e10_1⟩,
                    fun h => F15 (Reg.set_ne (by decide) h)⟩
              · have tn := (Reg.turn hi).1
                obtain rfl := F11 (Reg.dep hi (by kernel_rfl)) tn
                refine wpOp_step rfl ?_
                intro K' hK
                clear hi
                go_simp
                refine hK _ _ ⟨(u12), (u13), (.nilIface), (u69), (u70), (u71), (u72), (u73), (u74), (u75), (u76), (u77), (u78), (u79), (.nilIface), (by kernel_rfl), HB, fun h hn => F0 (Reg.set_ne (by decide) h) (fun h' => hn (Reg.no_set h' (by rw [hN]; decide))),
                    fun h hn => F1 (Reg.set_ne (by decide) h) (fun h' => hn (Reg.no_set h' (by rw [hN]; decide))),
                    fun h hn => F2 (Reg.set_ne (by decide) h) (fun h' => hn (Reg.no_set h' (by rw [hN]; decide))),
                    fun h hn => F3 (Reg.set_ne (by decide) h) (fun h' => hn (Reg.no_set h' (by rw [hN]; decide))),
                    fun h hn => F4 (Reg.set_ne (by decide) h) (fun h' => hn (Reg.no_set h' (by rw [hN]; decide))),
                    fun h hn => F5 (Reg.set_ne (by decide) h) (fun h' => hn (Reg.no_set h' (by rw [hN]; decide))),
                    fun h hn => F6 (Reg.set_ne (by decide) h) (fun h' => hn (Reg.no_set h' (by rw [hN]; decide))),
                    fun h hn => F7 (Reg.set_ne (by decide) h) (fun h' => hn (Reg.no_set h' (by rw [hN]; decide))),
                    fun h => F8 (Reg.set_ne (by decide) h),
                    fun h hn => F9 (Reg.set_ne (by decide) h) (fun h' => hn (Reg.no_set h' (by rw [hN]; decide))),
                    fun h hn => F10 (Reg.set_ne (by decide) h) (fun h' => hn (Reg.no_set h' (by rw [hN]; decide))),
                    fun _ h => (h (Reg.set_self (by rw [hN]; decide))).elim,
                    fun h hn => F12 (Reg.set_ne (by decide) h) (fun h' => hn (Reg.no_set h' (by rw [hN]; decide))),
                    fun h => F13 (Reg.set_ne (by decide) h),
                    fun h => F14 (Reg.set_ne (by decide) h),
                    fun _ => rfl⟩
            intro rl ra w7 hl hJ hr
            obtain ⟨u12, u13, u14, u69, u70, u71, u72, u73, u74, u75, u76, u77, u78, u79, u80, hA, HB, F0, F1, F2, F3, F4, F5, F6, F7, F8, F9, F10, F11, F12, F13, F14, F15⟩ := hJ
            simp only [Reg.over, List.foldl_cons, List.foldl_nil, List.setIfInBounds_toArray, List.set_cons_zero, List.set_cons_succ] at hA
            subst hA
            have AD := Reg.done hl hr (by kernel_rfl)
            obtain ⟨gh, kh, dh, rfl, XH, KH, HGH⟩ := F13 (AD 13 (by decide))
            obtain ⟨vh, zh, rfl, BH⟩ := F14 (AD 14 (by decide))
            obtain rfl := F15 (AD 15 (by decide))
            clear AD hr hl F0 F1 F2 F3 F4 F5 F6 F7 F8 F9 F10 F11 F12 F13 F14 F15
            have BZ := Lib.hid (kept_trans B6.out HB)
            have HSW := Lib.hid (show S < w5.heap.size from Nat.lt_of_lt_of_le (block_lt_of_cell (Win.OwnBs.cell SR.out (i := 0) (by have := HIN.out; omega)).1) B6.out.size)
            have S7 := Lib.hid (own_below SR.out BZ.out)
            have XG := Lib.hid (blk XR.out BZ.out)
            have K7 := kept_hid KR BZ.out
            have d2 := (BZ.out.cell (p := ⟨lg, lo + q * 3 + 2, none⟩) (block_lt_of_cell d2)).trans d2
            have hnl : n < inn.length := by have := HIN.out; have := HN.out.2; omega
            obtain ⟨da, fa⟩ := Win.OwnBs.cell S7.out (i := n) hnl
            rw [HIQ.out] at da
            have SS := Win.OwnBs.set S7.out n true
            have S8 := Lib.hid SS.1
            have X8 := Lib.hid (blk_g XG.out SS.2 (by intro h; injection h with h; have := HGW.out; omega))
            have Y8 := Lib.hid (blk_g XH SS.2 (by intro h; injection h with h; have := HSW.out; have := HGH; omega))
            have KH8 := Lib.hid (Reg.byts_grown SS.2 (bs_no_u8 S7.out) KH)
            have K8 := Lib.hid (K7.out.grown SS.2 K7.out.size (by intro g hg; injection hg with hg; have := HS3.out; omega))
            obtain ⟨bb, bo, rfl, bc⟩ := byts_one BH
            have hgt := HGT.out
            have hn0 : (0 : Int) ≤ (n : Int) := by omega
            have hn6 : (n : Int) < 65536 := by have := HN.out.2; omega
            clear d1 HC KH BH XH XG HB B6 SS
            go_upto_region 21 with (fail)
            clear da fa d2 bc S7 K7
            generalize w7.setCell _ _ = w8 at *
            have d1 := (K8.out.cell (p := ⟨lg, lo + q * 3 + 1, none⟩) (block_lt_of_cell M1.out)).trans M1.out
            obtain ⟨y0, y1, y2, y3, y4, y5⟩ := cells6 Y8.out
            obtain ⟨c0, c1, c2, c3, c4, c5⟩ := cells6 X8.out
            obtain ⟨f0, f1, f2, f3, f4, f5⟩ := free6 X8.out
            have SF := Lib.hid (over6 w8 G 31 _ _ _ _ _ _ (.slice kh key.length dh) (.int .i64 1) (.int .i64 s.top) (.int .u64 (ub : Int)) (.string who) (.int .i64 s.top) X8.out)
            have X9 := Lib.hid SF.out.1
            have K9 := Lib.hid (K8.out.grown SF.out.2 K8.out.size (by intro g hg; injection hg with hg; have := HG2.out; omega))
            have S9 := Lib.hid (show Win.OwnBs _ S (.slice (some ⟨S, 0, none⟩) 65536 65536) (inn.set n true) from own_other S8.out SF.out.2 HGW.out)
            have KH9 := Lib.hid (Reg.byts_grown SF.out.2 (Reg.no_u8 X8.out (by simp)) KH8.out)
            go_upto_region 25 with (fail)
            clear y0 y1 y2 y3 y4 y5 c0 c1 c2 c3 c4 c5 f0 f1 f2 f3 f4 f5 SF X8 Y8 S8 K8 KH8 d1
            generalize (((((w8.setCell _ _).setCell _ _).setCell _ _).setCell _ _).setCell _ _).setCell _ _ = w9 at *
            obtain ⟨c0, c1, c2, c3, c4, c5⟩ := cells6 X9.out
            have hpe := fun W => run_neqP who s.top W
            have eii : wrap64 ((q : Int) + 1) = (q : Int) + 1 := by have := HLT.out; have := HBL.out; rw [IntWalk.wrap64_in] <;> omega
            go_wp2_with fail
            go_roundg (l.length + 1 - (q + 1))
            case measure => have := HLT.out; omega
            case rel => exact ⟨q + 1, ⟨s.top, ub⟩, inn.set n true, who, kh, dh, HLT.out, rfl, by first | exact congrArg (Value.int .i64) eii | rfl | go_num, rfl, rfl, Lib.hid hcm, Lib.hid (by rw [List.length_set]; exact HIN.out), S9, X9, KH9, K9⟩
    · obtain rfl : q = l.length := by omega
      have hn0 : ¬ (l.length : Int) < (l.length : Int) := by omega
      have HKN := Lib.hid (known_any ⟨key, 1, s, who, s.top⟩ kx kd wr)
      simp only at HKN
      clear hlt hq
      obtain ⟨c0, c1, c2, c3, c4, c5⟩ := cells6 XR.out
      by_cases h0 : 0 < s.top
      · have hd : decide (0 < s.top) = true := by simpa using h0
        rw [hd] at HKN
        go_wp2_with fail
        refine HKN.out.mono ?_
        rintro e wz ⟨rfl, hb⟩
        go_wp2_with fail
        go_ret
        exact ⟨rfl, kept_trans KR.out hb⟩
      · have hd : decide (0 < s.top) = false := by simpa using h0
        rw [hd] at HKN
        go_wp2_with fail
        refine HKN.out.mono ?_
        rintro e wz ⟨rfl, hb⟩
        go_wp2_with fail
        go_ret
        exact ⟨rfl, kept_trans KR.out hb⟩
end Rom
end Go.Proofs.YtoiidedigbfnaaaDoor
