/- The document's Write of submissions. Written by tools/gen_red_ref.py. -/
import Derived.Test.YtpdlpmbjhopnnaaGreatDoorBunRdm
import Derived.Test.YtpdlpmbjhopnnaaGreatDoorBunInp
import Derived.Test.YtpdlpmbjhopnnaaGreatDoorBunRop
import Derived.Test.YtpdlpmbjhopnnaaGreatDoorBunRlg
import Derived.Deep.Cut
import Derived.Deep.LoopGhost
import Derived.Deep.RegionLaw
import Derived.IntWalk
namespace Go.Proofs.YtpdlpmbjhopnnaaGreatDoor
open Go.RowKit Sha Six Apd Cut Err Att Grd Fld
set_option linter.unusedVariables false
namespace Red
theorem fbs_drop (z : Nat) {fs : List Inp.F} {q : Nat} (h : q < fs.length) : Inp.fbs z (fs.drop q) = Inp.fb z (fs.getD q Inp.noneF) ++ Inp.fbs z (fs.drop (q + 1)) := by
  rw [List.drop_eq_getElem_cons h, List.getD_eq_getElem?_getD, List.getElem?_eq_getElem h]; rfl
theorem fb_at (z an : Nat) (ts : List Nat) : Inp.fb z ⟨(an : Int), ts⟩ = 17 :: Adr.first an z :: Adr.second an z :: ts := by unfold Inp.fb; rw [if_pos (by simp)]; rfl
theorem fb_no {z : Nat} {a : Int} {ts : List Nat} (h : ¬ 0 ≤ a) : Inp.fb z ⟨a, ts⟩ = ts := by unfold Inp.fb; rw [if_neg h]
set_option maxRecDepth 100000 in
set_option maxHeartbeats 8000000 in
theorem riwrite_any (i : Inp.I) (va : Option Addr) (vc z base : Nat) (w : World) (h : Inp.FldsIn w base (.slice va i.fs.length vc) i.fs) (hn : i.fs.length < 1000000) (hz : z ≤ 16383) (hc0 : 0 ≤ i.cur) (hc1 : i.cur < z) (hfa : ∀ f ∈ i.fs, f.a < z) (h8 : i.aid < 256) (hl : (Inp.ibytes i z).length < 1000000) :
    Calls Tryz.prog 14 #[.agg #[.int .u8 (i.aid : Int), .int .i64 i.cur, .slice va i.fs.length vc], .int .i64 (z : Int)] w fun e w' => ∃ ra rc, e = .returned (.slice ra (Inp.ibytes i z).length rc) ∧ w'.ownsRow w.heap.size 5 1 (.slice ra (Inp.ibytes i z).length rc) (Inp.ibytes i z).length (u8s (Inp.ibytes i z)) ∧ Below w.heap.size w w' := by
  obtain ⟨c, cur, fs⟩ := i
  simp only at *
  obtain ⟨cn, rfl⟩ := Int.eq_ofNat_of_zero_le hc0
  have HBR := Lib.hid fun W => rbare_any c W h8
  have HP0 := Lib.hid fun W => Go.Proofs.YtpdlpmbjhopnnaaGreatDoor.Ord.rput4_any cn z W (by omega) hz
  have HPF := Lib.hid fun W a (ha : a < z) => Go.Proofs.YtpdlpmbjhopnnaaGreatDoor.Ord.rput4_any a z W ha hz
  have HI := Lib.hid h
  have HN := Lib.hid hn
  have HFA := Lib.hid hfa
  have HL := Lib.hid hl
  have HW : Inp.ibytes ⟨c, (cn : Int), fs⟩ z = if Att.bare c = true then [c] else c :: Adr.first cn z :: Adr.second cn z :: Inp.fbs z fs := rfl
  generalize Inp.ibytes ⟨c, (cn : Int), fs⟩ z = W0 at *
  have HB := Lib.hid (al_any w (.cells #[.int .u8 (c : Int), .int .i64 (cn : Int), .slice va fs.length vc] 46))
  have HX := Lib.hid (heap_alloc_new w (.cells #[.int .u8 (c : Int), .int .i64 (cn : Int), .slice va fs.length vc] 46))
  have ES : (w.alloc (.cells #[.int .u8 (c : Int), .int .i64 (cn : Int), .slice va fs.length vc] 46)).heap.size = w.heap.size + 1 := by simp
  clear h hn hz hc0 hc1 hfa h8 hl
  cases hb : Att.bare c with
  | true =>
    rw [hb] at HW HBR
    replace HW := Lib.hid (show W0 = [c] from HW)
    clear hb
    go_enter Tryz.func14, Tryz.ntmps14
    go_upto_region 1 with (fail)
    generalize w.alloc _ = w1 at *
    have HA := al_any w1 (.cells #[.int .u8 (c : Int)] 5)
    have X2 := Lib.hid (blk HX.out HA)
    have O2 := Lib.hid (show (w1.alloc (.cells #[.int .u8 (c : Int)] 5)).ownsRow (w.heap.size + 1) 5 1 (.slice (some ⟨w.heap.size + 1, 0, none⟩) 1 1) 1 (u8s [c]) from by
      have := own_lit w1 (w.heap.size + 1) [c] (by omega) (by simp)
      rw [ES] at this
      exact this)
    have K2 := kept_hid HB HA
    obtain ⟨y0, y1, y2⟩ := cells3 HX.out
    go_upto_region 2 with (fail)
    clear HA HX HB y0 y1 y2
    clear ES
    generalize w1.alloc _ = w2 at *
    obtain ⟨y0, y1, y2⟩ := cells3 X2.out
    go_wp2_with fail
    with_reducible refine (HBR.out _).mono ?_
    rintro e w2' ⟨rfl, rfl⟩
    clear y0 y1 y2
    have HLE := Lib.hid (show (1 : Nat) = W0.length from by rw [HW.out]; rfl)
    go_wp2_with fail
    go_ret
    exact ⟨some ⟨w.heap.size + 1, 0, none⟩, 1, by rw [← HLE.out]; rfl, by rw [← HLE.out, HW.out]; exact own_mono O2.out (Nat.le_succ _), K2.out⟩
  | false =>
    rw [hb] at HW HBR
    replace HW := Lib.hid (show W0 = c :: Adr.first cn z :: Adr.second cn z :: Inp.fbs z fs from HW)
    clear hb
    generalize Adr.first cn z = p1 at *
    generalize Adr.second cn z = p2 at *
    go_enter Tryz.func14, Tryz.ntmps14
    go_upto_region 1 with (fail)
    generalize w.alloc _ = w1 at *
    have HA := al_any w1 (.cells #[.int .u8 (c : Int)] 5)
    have X2 := Lib.hid (blk HX.out HA)
    have O2 := Lib.hid (show (w1.alloc (.cells #[.int .u8 (c : Int)] 5)).ownsRow (w.heap.size + 1) 5 1 (.slice (some ⟨w.heap.size + 1, 0, none⟩) 1 1) 1 (u8s [c]) from by
      have := own_lit w1 (w.heap.size + 1) [c] (by omega) (by simp)
      rw [ES] at this
      exact this)
    have K2 := kept_hid HB HA
    obtain ⟨y0, y1, y2⟩ := cells3 HX.out
    go_upto_region 2 with (fail)
    clear HA HX HB y0 y1 y2
    clear ES
    generalize w1.alloc _ = w2 at *
    obtain ⟨y0, y1, y2⟩ := cells3 X2.out
    go_wp2_with fail
    with_reducible refine (HBR.out _).mono ?_
    rintro e w2' ⟨rfl, rfl⟩
    clear y0 y1 y2
    obtain ⟨y0, y1, y2⟩ := cells3 X2.out
    go_wp2_with fail
    with_reducible refine (HP0.out _).mono ?_
    rintro e w3 ⟨v, rfl, ho, hb⟩
    obtain ⟨pa, pc, rfl⟩ := own_form ho
    have P3 := Lib.hid ho
    have O3 := Lib.hid (own_below O2.out hb)
    have X3 := Lib.hid (blk X2.out hb)
    have K3 := kept_hid K2 hb
    have HLB := Lib.hid (show ([c] : List Nat).length + 2 < 1000000 by simp)
    clear ho hb O2 X2 K2 y0 y1 y2 HP0 HBR
    go_wp2_with (at_builtin; refine wpList_mark ?_)
    refine Lib.hid ?_
    refine append_own rfl (.tmp 14) (.tmp 18) rfl (w.heap.size + 1) (.slice (some ⟨w.heap.size + 1, 0, none⟩) [c].length 1) [c].length (u8s [c]) rfl O3.out pa 2 pc [p1, p2] rfl rfl (own_nil P3.out) (bytes_src (own_bytes P3.out)) (by have := HLB.out; omega) (there_lt X3.out) ?_
    intro v' wA4 hown hgr _
    have HG := own_ge O3.out
    have O4 := Lib.hid (show wA4.ownsRow (w.heap.size + 1) 5 1 v' ([c] ++ [p1, p2]).length (u8s ([c] ++ [p1, p2])) from by
      rw [List.length_append]
      have e : u8s ([c] ++ [p1, p2]) = u8s [c] ++ u8s [p1, p2] := by simp [u8s]
      rw [e]
      exact hown)
    have X4 := Lib.hid (blk_g X3.out hgr (fun e => by have := HG _ e.symm; omega))
    have K4 := Lib.hid (K3.out.grown hgr K3.out.size (fun g hg => by have := HG _ hg; omega))
    obtain ⟨v4, k4, rfl⟩ := own_form O4.out
    clear hown hgr HG O3 X3 K3
    obtain ⟨b4, HE4⟩ : ∃ l, Hid (l = [c] ++ [p1, p2]) := ⟨_, Lib.hid rfl⟩
    rw [← HE4.out] at O4 ⊢
    clear P3 HLB
    go_wp2_with fail
    go_loopg [5, 6] (fs.length + 1) (fun mm tt ii wr => ∃ (q : Nat) (bs : List Nat) (ta : Option Addr) (tc : Nat), q ≤ fs.length ∧ mm = fs.length + 1 - q ∧ ii = .int .i64 q ∧ tt = .slice ta bs.length tc ∧ Hid (wr.ownsRow (w.heap.size + 1) 5 1 (.slice ta bs.length tc) bs.length (u8s bs)) ∧ Hid (bs ++ Inp.fbs z (fs.drop q) = W0) ∧ Hid (wr.heap[w.heap.size]? = some (.cells #[.int .u8 (c : Int), .int .i64 (cn : Int), .slice va fs.length vc] 46 (0, 0))) ∧ Hid (Below w.heap.size w wr))
    case atStart => exact ⟨0, b4, _, _, Nat.zero_le _, rfl, rfl, rfl, O4, Lib.hid (show b4 ++ Inp.fbs z (fs.drop 0) = W0 from by rw [HE4.out, HW.out]; rfl), X4, K4⟩
    case round =>
      obtain ⟨q, bs, ta, tc, hq, rfl, rfl, rfl, OR, HR, XR, KR⟩ := hrel
      clear O4 X4 K4
      have ew : IntKind.i64.wrap ((q : Int) + 1) = (q : Int) + 1 := by
        have := HN.out
        rw [IntWalk.i64_in] <;> omega
      obtain ⟨y0, y1, y2⟩ := cells3 XR.out
      by_cases hlt : q < fs.length
      · have HQ := Lib.hid hlt
        have hi0 : (0 : Int) ≤ (q : Int) := by omega
        have hi1 : (q : Int) < (fs.length : Int) := by omega
        obtain ⟨a, ts, ef⟩ := Inp.f_eta (fs.getD q Inp.noneF)
        have hfz := HFA.out (fs.getD q Inp.noneF) (by rw [List.getD_eq_getElem?_getD, List.getElem?_eq_getElem hlt]; exact List.getElem_mem hlt)
        rw [ef] at hfz
        have hdr := fbs_drop z hlt
        rw [ef] at hdr
        obtain ⟨b, off, ta2, tn2, tc2, rfl, u0, u1, HB2, HN2⟩ := HI.out.cells hlt ef
        obtain rfl : tn2 = ts.length := by obtain ⟨_, _, e, _⟩ := HB2; injection e
        have HTB := Lib.hid HB2
        have HTN := Lib.hid HN2
        have q0 := (KR.out.cell (cell_lt u0)).trans u0
        have q1 := (KR.out.cell (cell_lt u1)).trans u1
        rw [hdr] at HR
        clear ef hdr HB2 HN2 hlt hq
        by_cases ha : 0 ≤ a
        · obtain ⟨an, rfl⟩ := Int.eq_ofNat_of_zero_le ha
          have HPA := Lib.hid fun W => HPF.out W an (by simpa using hfz)
          have HR := Lib.hid (show bs ++ ((17 :: Adr.first an z :: Adr.second an z :: ts) ++ Inp.fbs z (fs.drop (q + 1))) = W0 from by
            rw [← HR.out, fb_at])
          generalize Adr.first an z = f1 at *
          generalize Adr.second an z = f2 at *
          have HLB := Lib.hid (show bs.length + 3 + ts.length < 1000000 from by
            have := HL.out; rw [← HR.out] at this; simp only [List.length_append, List.length_cons] at this; omega)
          have hge : ((an : Int) ≥ 0) := ha
          have HA := al_any wr (.cells #[.int .u8 17] 5)
          have T5 := Lib.hid (lit_in wr [17])
          have O5 := Lib.hid (own_below OR.out HA)
          have X5 := Lib.hid (blk XR.out HA)
          have K5 := kept_hid KR HA
          clear HA OR XR KR hfz
          go_wp2_with (at_builtin; refine wpList_mark ?_)
          refine Lib.hid ?_
          refine append_own rfl (.tmp 34) (.tmp 35) rfl (w.heap.size + 1) (.slice ta bs.length tc) bs.length (u8s bs) rfl O5.out (some ⟨wr.heap.size, 0, none⟩) 1 1 [17] rfl rfl nofun (bytes_src T5.out) (by have := HLB.out; omega) (there_lt X5.out) ?_
          intro v' wA6 hown hgr _
          have HG := own_ge O5.out
          have O6 := Lib.hid (show wA6.ownsRow (w.heap.size + 1) 5 1 v' (bs ++ [17]).length (u8s (bs ++ [17])) from by
            rw [List.length_append]
            have e : u8s (bs ++ [17]) = u8s bs ++ u8s [17] := by simp [u8s]
            rw [e]
            exact hown)
          have X6 := Lib.hid (blk_g X5.out hgr (fun e => by have := HG _ e.symm; omega))
          have K6 := Lib.hid (K5.out.grown hgr K5.out.size (fun g hg => by have := HG _ hg; omega))
          obtain ⟨v6, k6, rfl⟩ := own_form O6.out
          clear hown hgr HG O5 X5 K5
          obtain ⟨b6, HE6⟩ : ∃ l, Hid (l = bs ++ [17]) := ⟨_, Lib.hid rfl⟩
          rw [← HE6.out] at O6 ⊢
          clear T5 q0 q1 y0 y1 y2
          obtain ⟨y0, y1, y2⟩ := cells3 X6.out
          have q0 := (K6.out.cell (cell_lt u0)).trans u0
          go_wp2_with fail
          with_reducible refine (HPA.out _).mono ?_
          rintro e w7 ⟨v, rfl, ho, hb⟩
          obtain ⟨pa, pc, rfl⟩ := own_form ho
          have P7 := Lib.hid ho
          have O7 := Lib.hid (own_below O6.out hb)
          have X7 := Lib.hid (blk X6.out hb)
          have K7 := kept_hid K6 hb
          have HLB := Lib.hid (show b6.length + 2 < 1000000 from by have := HLB.out; rw [HE6.out]; simp only [List.length_append, List.length_cons, List.length_nil]; omega)
          clear ho hb O6 X6 K6 q0 y0 y1 y2 HPA
          go_wp2_with (at_builtin; refine wpList_mark ?_)
          refine Lib.hid ?_
          refine append_own rfl (.tmp 37) (.tmp 45) rfl (w.heap.size + 1) (.slice v6 b6.length k6) b6.length (u8s b6) rfl O7.out pa 2 pc [f1, f2] rfl rfl (own_nil P7.out) (bytes_src (own_bytes P7.out)) (by have := HLB.out; omega) (there_lt X7.out) ?_
          intro v' wA8 hown hgr _
          have HG := own_ge O7.out
          have O8 := Lib.hid (show wA8.ownsRow (w.heap.size + 1) 5 1 v' (b6 ++ [f1, f2]).length (u8s (b6 ++ [f1, f2])) from by
            rw [List.length_append]
            have e : u8s (b6 ++ [f1, f2]) = u8s b6 ++ u8s [f1, f2] := by simp [u8s]
            rw [e]
            exact hown)
          have X8 := Lib.hid (blk_g X7.out hgr (fun e => by have := HG _ e.symm; omega))
          have K8 := Lib.hid (K7.out.grown hgr K7.out.size (fun g hg => by have := HG _ hg; omega))
          obtain ⟨v8, k8, rfl⟩ := own_form O8.out
          clear hown hgr HG O7 X7 K7
          obtain ⟨b8, HE8⟩ : ∃ l, Hid (l = b6 ++ [f1, f2]) := ⟨_, Lib.hid rfl⟩
          rw [← HE8.out] at O8 ⊢
          clear P7
          obtain ⟨y0, y1, y2⟩ := cells3 X8.out
          have q1 := (K8.out.cell (cell_lt u1)).trans u1
          have T9 := Lib.hid (bytes_below HTB.out K8.out)
          have HLB := Lib.hid (show b8.length + ts.length < 1000000 from by rw [HE8.out, HE6.out]; have := HL.out; rw [← HR.out] at this; simp only [List.length_append, List.length_cons, List.length_nil] at this ⊢; omega)
          go_wp2_with (at_builtin; refine wpList_mark ?_)
          refine Lib.hid ?_
          refine append_own rfl (.tmp 47) (.tmp 53) rfl (w.heap.size + 1) (.slice v8 b8.length k8) b8.length (u8s b8) rfl O8.out ta2 ts.length tc2 ts rfl rfl HTN.out (bytes_src T9.out) (by have := HLB.out; omega) (there_lt X8.out) ?_
          intro v' wA9 hown hgr _
          have HG := own_ge O8.out
          have O9 := Lib.hid (show wA9.ownsRow (w.heap.size + 1) 5 1 v' (b8 ++ ts).length (u8s (b8 ++ ts)) from by
            rw [List.length_append]
            have e : u8s (b8 ++ ts) = u8s b8 ++ u8s ts := by simp [u8s]
            rw [e]
            exact hown)
          have X9 := Lib.hid (blk_g X8.out hgr (fun e => by have := HG _ e.symm; omega))
          have K9 := Lib.hid (K8.out.grown hgr K8.out.size (fun g hg => by have := HG _ hg; omega))
          obtain ⟨v9, k9, rfl⟩ := own_form O9.out
          clear hown hgr HG O8 X8 K8
          obtain ⟨b9, HE9⟩ : ∃ l, Hid (l = b8 ++ ts) := ⟨_, Lib.hid rfl⟩
          rw [← HE9.out] at O9 ⊢
          clear q1 y0 y1 y2
          have HR2 := Lib.hid (show b9 ++ Inp.fbs z (fs.drop (q + 1)) = W0 from by rw [HE9.out, HE8.out, HE6.out, ← HR.out]; simp)
          go_wp2_with fail
          go_roundg (fs.length + 1 - (q + 1))
          case measure => have := HQ.out; omega
          case rel => exact ⟨q + 1, b9, v9, k9, HQ.out, rfl, by first | rfl | go_num, by first | rfl | simp, O9, HR2, X9, K9⟩
        · have HR := Lib.hid (show bs ++ (ts ++ Inp.fbs z (fs.drop (q + 1))) = W0 from by
            rw [← HR.out, fb_no ha])
          have HLB := Lib.hid (show bs.length + ts.length < 1000000 from by
            have := HL.out; rw [← HR.out] at this; simp only [List.length_append] at this; omega)
          have hge : ¬ a ≥ 0 := ha
          have T9 := Lib.hid (bytes_below HTB.out KR.out)
          clear hfz ha
          go_wp2_with (at_builtin; refine wpList_mark ?_)
          refine Lib.hid ?_
          refine append_own rfl (.tmp 47) (.tmp 53) rfl (w.heap.size + 1) (.slice ta bs.length tc) bs.length (u8s bs) rfl OR.out ta2 ts.length tc2 ts rfl rfl HTN.out (bytes_src T9.out) (by have := HLB.out; omega) (there_lt XR.out) ?_
          intro v' wA9 hown hgr _
          have HG := own_ge OR.out
          have O9 := Lib.hid (show wA9.ownsRow (w.heap.size + 1) 5 1 v' (bs ++ ts).length (u8s (bs ++ ts)) from by
            rw [List.length_append]
            have e : u8s (bs ++ ts) = u8s bs ++ u8s ts := by simp [u8s]
            rw [e]
            exact hown)
          have X9 := Lib.hid (blk_g XR.out hgr (fun e => by have := HG _ e.symm; omega))
          have K9 := Lib.hid (KR.out.grown hgr KR.out.size (fun g hg => by have := HG _ hg; omega))
          obtain ⟨v9, k9, rfl⟩ := own_form O9.out
          clear hown hgr HG OR XR KR
          obtain ⟨b9, HE9⟩ : ∃ l, Hid (l = bs ++ ts) := ⟨_, Lib.hid rfl⟩
          rw [← HE9.out] at O9 ⊢
          clear q0 q1 y0 y1 y2
          have HR2 := Lib.hid (show b9 ++ Inp.fbs z (fs.drop (q + 1)) = W0 from by rw [HE9.out, ← HR.out]; simp)
          go_wp2_with fail
          go_roundg (fs.length + 1 - (q + 1))
          case measure => have := HQ.out; omega
          case rel => exact ⟨q + 1, b9, v9, k9, HQ.out, rfl, by first | rfl | go_num, by first | rfl | simp, O9, HR2, X9, K9⟩
      · obtain rfl : q = fs.length := by omega
        have hn0 : ¬ (fs.length : Int) < (fs.length : Int) := by omega
        have HE := Lib.hid (show bs = W0 from by rw [← HR.out, List.drop_length]; simp [Inp.fbs])
        clear hlt hq
        go_wp2_with fail
        go_ret
        exact ⟨ta, tc, by rw [← HE.out]; first | rfl | simp, by rw [← HE.out]; exact own_mono OR.out (Nat.le_succ _), KR.out⟩
end Red
end Go.Proofs.YtpdlpmbjhopnnaaGreatDoor
