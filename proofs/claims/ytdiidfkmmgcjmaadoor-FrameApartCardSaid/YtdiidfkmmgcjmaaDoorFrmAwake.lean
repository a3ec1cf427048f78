/- awake of the laws of frame. Written by tools/gen_frm_laws.py. -/
import Derived.Test.YtdiidfkmmgcjmaaDoorFrmCode
import Derived.Test.YtdiidfkmmgcjmaaDoorBunErr
import Derived.Deep.Cut
import Derived.Deep.LoopGhost
import Derived.Deep.RegionLaw
import Derived.Deep.RegionHeld3
import Derived.IntWalk
import Derived.Lib.SlBytesConst
import Derived.Lib.SmallJoins
namespace Go.Proofs.YtdiidfkmmgcjmaaDoor
open Go.RowKit Sha Six Apd Cut Err
set_option linter.unusedVariables false
set_option linter.unusedSimpArgs false
namespace Frm
theorem code_errn (n : Nat) (w : World) (hg : Handle w) :
    Calls Tryd.prog 11 #[errn n] w fun e w' => e = .returned (.int .i64 (n : Int)) ∧ Below w.heap.size w w' := by
  unfold errn
  split
  · rename_i h
    subst h
    exact code_nil w
  · exact code_errno (n : Int) w hg
def fk : F := ⟨0, 1, []⟩
theorem fk_wrong : wrong fk = 0 := rfl
theorem fk_len : (seal_ [107] fk).length = 26 := by rw [seal_len]; rfl
theorem fk_open : open_ [107] 0 (seal_ [107] fk) = (fk, 0) := open_seal [107] fk_wrong
theorem fk_other : open_ [107] 1 (seal_ [107] fk) = (none_, 13) := open_other [107] fk_wrong
theorem fk_tag : open_ [108] 0 (seal_ [107] fk) = (none_, 11) := by
  unfold open_
  rw [if_neg (by rw [fk_len]; decide), if_neg (by rw [fk_len]; decide), (seal_parts [107] fk).1, (seal_parts [107] fk).2, if_pos (by decide +kernel)]
set_option maxRecDepth 100000 in
set_option maxHeartbeats 8000000 in
theorem awake_any (w : World) (hg : Handle w) : Calls Tryd.prog 8 #[] w fun e w' => e = .returned (.bool true) ∧ Below w.heap.size w w' := by
  have HG := Lib.hid fun W (hb : Below w.heap.size w W) => hand_of hg hb
  have HK := Lib.hid fun (W : World) (c : Nat) (hc : c < 256) => (show Byts (W.alloc (.cells #[.int .u8 (c : Int)] 5 (1, 1 + 1))) (some ⟨W.heap.size, 0, none⟩) 1 [c] from ⟨⟨_, _, rfl, Nat.le_refl _, .inr ⟨_, 0, rfl, fun j hj => by
    rw [World.cell?_alloc_mark]
    have h0 : j = 0 := by simp at hj; omega
    subst h0
    rfl⟩⟩, by simpa using hc, nofun⟩)
  have HSE := Lib.hid fun W a (h : Byts W (some a) 1 [107]) => fseal_any [107] fk (some a) 1 none 0 W h ⟨⟨none, 0, rfl, Nat.le_refl _, .inl rfl⟩, by simp [fk], fun _ => ⟨rfl, rfl⟩⟩ (by decide) (by decide)
  have HO1 := Lib.hid fun W a ba bc (h : Byts W (some a) 1 [107]) (hb : Byts W ba bc (seal_ [107] fk)) => fopen_any [107] (seal_ [107] fk) 0 (some a) 1 ba bc W h hb (by decide) (by rw [fk_len]; decide) rfl
  have HO2 := Lib.hid fun W a ba bc (h : Byts W (some a) 1 [108]) (hb : Byts W ba bc (seal_ [107] fk)) => fopen_any [108] (seal_ [107] fk) 0 (some a) 1 ba bc W h hb (by decide) (by rw [fk_len]; decide) rfl
  have HO3 := Lib.hid fun W a ba bc (h : Byts W (some a) 1 [107]) (hb : Byts W ba bc (seal_ [107] fk)) => fopen_any [107] (seal_ [107] fk) 1 (some a) 1 ba bc W h hb (by decide) (by rw [fk_len]; decide) rfl
  rw [fk_open] at HO1
  rw [fk_tag] at HO2
  rw [fk_other] at HO3
  rw [show sealB [107] fk = seal_ [107] fk from by unfold sealB; rw [if_pos fk_wrong], fk_wrong] at HSE
  have H8 := Lib.hid (show ∀ x ∈ seal_ [107] fk, x < 256 from seal_small [107] (.inl rfl) (by simp [fk]))
  have HLN := Lib.hid fk_len
  generalize seal_ [107] fk = sl at *
  simp only [GaveS, GaveF, fk, none_, errn_0, show errn 11 = .iface 45 (.int .i64 11) from rfl, show errn 13 = .iface 45 (.int .i64 13) from rfl, List.length_cons, List.length_nil, Nat.zero_add] at HSE HO1 HO2 HO3
  rw [HLN.out] at HSE HO1 HO2 HO3
  have kc := fun (w : World) (C : Array Value) (n c : Nat) => Lib.run_convert_bytes_const (P := Tryd.prog) w 22 5 C n c Tryd.underlying22 Tryd.underlying5
  clear hg
  go_enter Tryd.func8, Tryd.ntmps8
  have B1 := Lib.hid (HK.out w 107 (by decide))
  have K1 := Lib.hid (al_any w (.cells #[.int .u8 107] 5 (1, 1 + 1)))
  go_upto_region 1 with (fail)
  go_wp2_with fail
  generalize w.alloc _ = w1 at *
  with_reducible refine (HSE.out _ _ B1.out).mono ?_
  rintro e w2 ⟨va, vc, rfl, ho, hb⟩
  have S2 := Lib.hid (show Byts w2 va vc sl from byts_own (by rw [HLN.out]; exact ho) H8.out)
  have K2 := kept_hid K1 hb
  clear ho hb B1 K1 HSE
  have B3 := Lib.hid (HK.out w2 107 (by decide))
  have S3 := Lib.hid (S2.out.below (al_any w2 (.cells #[.int .u8 107] 5 (1, 1 + 1))))
  have K3 := kept_alloc K2 (.cells #[.int .u8 107] 5 (1, 1 + 1))
  go_wp2_with fail
  generalize w2.alloc _ = w3 at *
  with_reducible refine (HO1.out _ _ _ _ B3.out S3.out).mono ?_
  rintro e u1 ⟨va1, vc1, rfl, ho, hb⟩
  have HA := al_any u1 (.cells #[.int .i64 0, .int .i64 1, .slice va1 0 vc1] 24)
  have S4 := Lib.hid ((S3.out.below hb).below HA)
  have K4 := kept_hid K3 (kept_trans hb HA)
  have Y4 := Lib.hid (heap_alloc_new u1 (.cells #[.int .i64 0, .int .i64 1, .slice va1 0 vc1] 24))
  clear HA ho hb B3 S3 K3 S2 K2 HO1
  go_upto_region 3 with (fail)
  generalize u1.heap.size = N1 at *
  generalize u1.alloc _ = w4 at *
  have B5 := Lib.hid (HK.out w4 108 (by decide))
  have S5 := Lib.hid (S4.out.below (al_any w4 (.cells #[.int .u8 108] 5 (1, 1 + 1))))
  have K5 := kept_alloc K4 (.cells #[.int .u8 108] 5 (1, 1 + 1))
  have Y5 := Lib.hid (blk Y4.out (al_any w4 (.cells #[.int .u8 108] 5 (1, 1 + 1))))
  go_wp2_with fail
  generalize w4.alloc _ = w5 at *
  with_reducible refine (HO2.out _ _ _ _ B5.out S5.out).mono ?_
  rintro e u2 ⟨va2, vc2, rfl, ho, hb⟩
  have HA := al_any u2 (.cells #[.int .i64 0, .int .i64 0, .slice va2 0 vc2] 24)
  have S6 := Lib.hid ((S5.out.below hb).below HA)
  have K6 := kept_hid K5 (kept_trans hb HA)
  have Y6 := Lib.hid (blk Y5.out (kept_trans hb HA))
  clear HA ho hb B5 S5 K5 S4 K4 HO2 Y4 Y5
  go_upto_region 4 with (fail)
  generalize u2.heap.size = N2 at *
  generalize u2.alloc _ = w6 at *
  have B7 := Lib.hid (HK.out w6 107 (by decide))
  have S7 := Lib.hid (S6.out.below (al_any w6 (.cells #[.int .u8 107] 5 (1, 1 + 1))))
  have K7 := kept_alloc K6 (.cells #[.int .u8 107] 5 (1, 1 + 1))
  have Y7 := Lib.hid (blk Y6.out (al_any w6 (.cells #[.int .u8 107] 5 (1, 1 + 1))))
  go_wp2_with fail
  generalize w6.alloc _ = w7 at *
  with_reducible refine (HO3.out _ _ _ _ B7.out S7.out).mono ?_
  rintro e u3 ⟨va3, vc3, rfl, ho, hb⟩
  have HA := al_any u3 (.cells #[.int .i64 0, .int .i64 0, .slice va3 0 vc3] 24)
  have S8 := Lib.hid ((S7.out.below hb).below HA)
  have K8 := kept_hid K7 (kept_trans hb HA)
  have Y8 := Lib.hid (blk Y7.out (kept_trans hb HA))
  clear HA ho hb B7 S7 K7 S6 K6 HO3 Y6 Y7
  go_upto_region 5 with (fail)
  generalize u3.heap.size = N3 at *
  generalize u3.alloc _ = w8 at *
  have HC1 := Lib.hid fun W (hb : Below w.heap.size w W) => code_errno 11 W (HG.out W hb)
  have HC2 := Lib.hid fun W (hb : Below w.heap.size w W) => code_errno 13 W (HG.out W hb)
  obtain ⟨y0, y1, y2⟩ := cells3 Y8.out
  go_wp2_with fail
  with_reducible refine (HC1.out _ K8.out).mono ?_
  rintro e w9 ⟨rfl, hb⟩
  have K9 := kept_hid K8 hb
  clear hb
  go_wp2_with fail
  with_reducible refine (HC2.out _ K9.out).mono ?_
  rintro e wa ⟨rfl, hb⟩
  have KA := kept_hid K9 hb
  clear hb
  go_wp2_with fail
  go_ret
  exact ⟨rfl, KA.out⟩
end Frm
end Go.Proofs.YtdiidfkmmgcjmaaDoor
