/- Two texts put together; each theorem states its conditions. -/
import Derived.Test.YtjnbemopfhinbaaRbCa
import Derived.Test.YtjnbemopfhinbaaRbSw
import Derived.Deep.DeepCutAuto
import Derived.Test.YtjnbemopfhinbaaRows
import Derived.WalkKit
import Derived.ProofKit
import Derived.OpenShut
import Derived.ShutString
import Derived.ChangeOld
import Derived.Below
import Derived.SizedLaws
import Derived.Test.YtjnbemopfhinbaaRbO
/- RibDiffs, walked: what of two lists has become another is what the document says; they stay as they are. Each theorem states its conditions. -/
namespace Go.Proofs.Ytjnbemopfhinbaa
open Go.RowKit
set_option linter.unusedVariables false
set_option linter.unusedSimpArgs false

set_option maxHeartbeats 64000000 in
set_option maxRecDepth 100000 in
theorem walkRibDiffs (a0 : Option Addr) (len0 cap0 : Nat) (L0_ : Nat → Rx) (a1 : Option Addr) (len1 cap1 : Nat) (L1_ : Nat → Rx) (w : World) (h0 : InRx w a0 len0 cap0 L0_) (h1 : InRx w a1 len1 cap1 L1_) :
    Calls Try.prog 9 #[.slice a0 len0 cap0, .slice a1 len1 cap1] w fun e w' => e = .returned (.bool true) ∧ Below w.heap.size w w' := by
  obtain ⟨L0, h0, hc0⟩ : ∃ L, InRx w a0 len0 cap0 L ∧ ∀ j, Can (L j).r := ⟨_, in_can h0, fun j => can_can _⟩
  obtain ⟨L1, h1, hc1⟩ : ∃ L, InRx w a1 len1 cap1 L ∧ ∀ j, Can (L j).r := ⟨_, in_can h1, fun j => can_can _⟩
  have HL := Lib.hid h0
  have HL1 := Lib.hid h1
  have HC0 := Lib.hid hc0
  have HC1 := Lib.hid hc1
  have HAW := Lib.hid awakeR_any
  have HRB := Lib.hid (fun j => (h0.2.1 j).1)
  have HRB1 := Lib.hid (fun j => (h1.2.1 j).1)
  clear h0 h1 hc0 hc1
  obtain ⟨n, hn⟩ : ∃ n, min len0 40 = n := ⟨_, rfl⟩
  obtain ⟨m, hm⟩ : ∃ m, min len1 40 = m := ⟨_, rfl⟩
  have HN : Hid (n ≤ len0 ∧ n ≤ 40) := Lib.hid (by omega)
  have HM : Hid (m ≤ len1 ∧ m ≤ 40) := Lib.hid (by omega)
  have HNE := Lib.hid hn
  have HME := Lib.hid hm
  clear hn hm
  have HRR : Hid (∀ W, Below w.heap.size w W → RdR W a0 n 21 (fun j => rxC (L0 j)) ∧ ∀ j, j < n → HopAt W (L0 j)) := Lib.hid (fun W hW => ⟨(HL.out.1.below hW rfl).cut n HN.out.1, fun j _ => (HL.out.2.1 j).2.below hW⟩)
  have HRR1 : Hid (∀ W, Below w.heap.size w W → RdR W a1 m 21 (fun j => rxC (L1 j)) ∧ ∀ j, j < m → HopAt W (L1 j)) := Lib.hid (fun W hW => ⟨(HL1.out.1.below hW rfl).cut m HM.out.1, fun j _ => (HL1.out.2.1 j).2.below hW⟩)
  go_enter Try.func9, Try.ntmps9
  have HB := Lib.hid (Below.refl w.heap.size w)
  go_wp2_with fail
  refine (HAW.out _).mono ?_
  rintro e w2 ⟨rfl, b1⟩
  have HBn := Lib.hid (HB.out.trans (b1.mono HB.out.size))
  clear HB
  have HB := HBn
  clear HBn
  clear b1
  go_wp2_with fail
  go_cut [0, 1] (fun s1 s2 wc => s1 = .slice a0 n cap0 ∧ s2 = .slice a1 m cap1 ∧ Hid (Below w.heap.size w wc))
  case first =>
    refine wp_region_held_drew (S := fun w' => Below w.heap.size w w') (by kernel_rfl) HB.out.drew (fun hS => ?_)
    generalize hW41 : w2.drew = W41 at hS  ⊢
    clear hW41
    clear HB
    have HB := Lib.hid hS
    refine takeY (i := 0) (some 18) (v := .slice a0 len0 cap0) rfl rfl (by kernel_rfl) (by kernel_rfl) (by kernel_rfl) (fun _ _ _ h => h) (by rfl) (fun w' hS => by clear hS; go_simp) hS ?_
    simp only [Act.put, List.setIfInBounds_toArray, List.set_cons_zero, List.set_cons_succ]
    refine takeY (i := 1) (some 19) (v := .slice a0 len0 cap0) rfl rfl (by kernel_rfl) (by kernel_rfl) (by kernel_rfl) (fun _ _ _ h => h) (by rfl) (fun w' hS => by clear hS; go_simp) hS ?_
    simp only [Act.put, List.setIfInBounds_toArray, List.set_cons_zero, List.set_cons_succ]
    refine takeY (i := 2) (some 20) (v := .int .i64 (len0 : Int)) rfl rfl (by kernel_rfl) (by kernel_rfl) (by kernel_rfl) (fun _ _ _ h => h) (by rfl) (fun w' hS => by clear hS; exact lenR_run _ _ _ rfl a0 len0 cap0 rfl _) hS ?_
    simp only [Act.put, List.setIfInBounds_toArray, List.set_cons_zero, List.set_cons_succ]
    refine takeY (i := 3) (some 21) (v := .int .i64 (n : Int)) rfl rfl (by kernel_rfl) (by kernel_rfl) (by kernel_rfl) (fun _ _ _ h => h) (by rfl) (fun w' hS => by clear hS; rw [← HNE.out]; exact min40 _ _ _ rfl len0 rfl rfl _) hS ?_
    simp only [Act.put, List.setIfInBounds_toArray, List.set_cons_zero, List.set_cons_succ]
    refine takeY (i := 4) (some 22) (v := .slice a0 n cap0) rfl rfl (by kernel_rfl) (by kernel_rfl) (by kernel_rfl) (fun _ _ _ h => h) (by rfl) (fun w' hS => by clear hS; exact slice_rt _ _ _ _ rfl a0 len0 cap0 n (by rcases HL.out.1 with h | ⟨b, o, h, _⟩; exact .inl h; exact .inr ⟨b, o, h⟩) rfl rfl HN.out.1 HL.out.2.2.2.1 _) hS ?_
    simp only [Act.put, List.setIfInBounds_toArray, List.set_cons_zero, List.set_cons_succ]
    refine takeY (i := 5) (some 23) (v := .slice a1 len1 cap1) rfl rfl (by kernel_rfl) (by kernel_rfl) (by kernel_rfl) (fun _ _ _ h => h) (by rfl) (fun w' hS => by clear hS; go_simp) hS ?_
    simp only [Act.put, List.setIfInBounds_toArray, List.set_cons_zero, List.set_cons_succ]
    refine takeY (i := 6) (some 24) (v := .slice a1 len1 cap1) rfl rfl (by kernel_rfl) (by kernel_rfl) (by kernel_rfl) (fun _ _ _ h => h) (by rfl) (fun w' hS => by clear hS; go_simp) hS ?_
    simp only [Act.put, List.setIfInBounds_toArray, List.set_cons_zero, List.set_cons_succ]
    refine takeY (i := 7) (some 25) (v := .int .i64 (len1 : Int)) rfl rfl (by kernel_rfl) (by kernel_rfl) (by kernel_rfl) (fun _ _ _ h => h) (by rfl) (fun w' hS => by clear hS; exact lenR_run _ _ _ rfl a1 len1 cap1 rfl _) hS ?_
    simp only [Act.put, List.setIfInBounds_toArray, List.set_cons_zero, List.set_cons_succ]
    refine takeY (i := 8) (some 26) (v := .int .i64 (m : Int)) rfl rfl (by kernel_rfl) (by kernel_rfl) (by kernel_rfl) (fun _ _ _ h => h) (by rfl) (fun w' hS => by clear hS; rw [← HME.out]; exact min40 _ _ _ rfl len1 rfl rfl _) hS ?_
    simp only [Act.put, List.setIfInBounds_toArray, List.set_cons_zero, List.set_cons_succ]
    refine takeY (i := 9) (some 27) (v := .slice a1 m cap1) rfl rfl (by kernel_rfl) (by kernel_rfl) (by kernel_rfl) (fun _ _ _ h => h) (by rfl) (fun w' hS => by clear hS; exact slice_rt _ _ _ _ rfl a1 len1 cap1 m (by rcases HL1.out.1 with h | ⟨b, o, h, _⟩; exact .inl h; exact .inr ⟨b, o, h⟩) rfl rfl HM.out.1 HL1.out.2.2.2.1 _) hS ?_
    simp only [Act.put, List.setIfInBounds_toArray, List.set_cons_zero, List.set_cons_succ]
    refine takeY (i := 10) (some 0) (v := .slice a0 n cap0) rfl rfl (by kernel_rfl) (by kernel_rfl) (by kernel_rfl) (fun _ _ _ h => h) (by rfl) (fun w' hS => by clear hS; go_simp) hS ?_
    simp only [Act.put, List.setIfInBounds_toArray, List.set_cons_zero, List.set_cons_succ]
    refine takeY (i := 11) (some 1) (v := .slice a1 m cap1) rfl rfl (by kernel_rfl) (by kernel_rfl) (by kernel_rfl) (fun _ _ _ h => h) (by rfl) (fun w' hS => by clear hS; go_simp) hS ?_
    simp only [Act.put, List.setIfInBounds_toArray, List.set_cons_zero, List.set_cons_succ]
    clear hS
    refine wpAnyH_done (by kernel_rfl) ?_ _
    go_wp2_with fail
    go_meet
    case rel => exact ⟨rfl, rfl, HB⟩
  case rest =>
    obtain ⟨rfl, rfl, HBc⟩ := hcut
    clear HB
    have HB := HBc
    clear HBc
    go_wp2_with fail
    refine (twin_any L0 a0 n cap0 wc (HRR.out _ HB.out).1 (HRR.out _ HB.out).2 (by have := HN.out; omega)).mono ?_
    rintro e w3 ⟨v1, S1, rfl, hc, b1⟩
    have HBn := Lib.hid (HB.out.trans (b1.mono HB.out.size))
    clear HB
    have HB := HBn
    clear HBn
    clear b1
    have HCA := Lib.hid (hc)
    clear hc
    go_wp2_with fail
    refine (twin_any L1 a1 m cap1 w3 (HRR1.out _ HB.out).1 (HRR1.out _ HB.out).2 (by have := HM.out; omega)).mono ?_
    rintro e w4 ⟨v2, S2, rfl, hc, b1⟩
    have HBn := Lib.hid (HB.out.trans (b1.mono HB.out.size))
    clear HB
    have HB := HBn
    clear HBn
    have HCAn := Lib.hid (HCA.out.below b1)
    clear HCA
    have HCA := HCAn
    clear HCAn
    clear b1
    have HCB := Lib.hid (hc)
    clear hc
    obtain ⟨AS1, cS1, rfl, _, _, _, hrS1⟩ := HCA.out.own.shape (rxB_recs _) (by decide)
    have HRS1 := Lib.hid hrS1
    clear hrS1
    obtain ⟨AS2, cS2, rfl, _, _, _, hrS2⟩ := HCB.out.own.shape (rxB_recs _) (by decide)
    have HRS2 := Lib.hid hrS2
    clear hrS2
    go_wp2_with fail
    refine (diff_cpy HCA.out HCB.out (fun j _ => HRB.out j) (fun j _ => HRB1.out j) (by have := HN.out; omega) (by have := HM.out; omega)).mono ?_
    intro e w5 h5
    have b1 := h5.1
    have HD5 := Lib.hid (h5)
    have HB4 := Lib.hid (b1)
    have HBw := HB
    have HBn := Lib.hid (HB.out.trans (b1.mono HB.out.size))
    clear HB
    have HB := HBn
    clear HBn
    clear b1
    obtain ⟨v7, v8, q5, rfl⟩ := diffQ_e h5
    clear h5
    go_wp2_with fail
    refine (docDiff_any L0 L1 a0 a1 n m cap0 cap1 w5 (HRR.out _ HB.out).1 HRB.out HC0.out (HRR.out _ HB.out).2 (by have := HN.out; omega) (HRR1.out _ HB.out).1 HRB1.out HC1.out (HRR1.out _ HB.out).2 (by have := HM.out; omega)).mono ?_
    intro e w6 h6
    have b1 := h6.1
    have HB5 := Lib.hid (b1)
    have HBn := Lib.hid (HB.out.trans (b1.mono HB.out.size))
    clear HB
    have HB := HBn
    clear HBn
    have HB4n := Lib.hid (HB4.out.trans (b1.mono HB4.out.size))
    clear HB4
    have HB4 := HB4n
    clear HB4n
    clear b1
    obtain ⟨v10, v11, q6, rfl⟩ := ddiffQ_e h6
    obtain ⟨q, Ag, Ag', Ae, Ae', cg, cg', ce, ce', G, G', E, E', hO⟩ := difs_out HD5.out h6 HC0.out HC1.out HRB.out HRB1.out (HRR1.out _ HB.out).2
    have h9 := hO.e5
    cases h9
    have h9 := hO.e6
    cases h9
    have HO := Lib.hid (hO)
    clear hO h6 HD5
    have HLG := Lib.hid (show G.length ≤ 40 ∧ E.length ≤ 40 from ⟨by have := HO.out.lg; have := HN.out; omega, by have := HO.out.le; have := HM.out; omega⟩)
    go_wp2_with fail
    have HB67 := Lib.hid (Below.refl w6.heap.size w6)
    refine (sameP Ag Ag' G.length cg cg' (fun j => G.getD j pf0) (fun j => G'.getD j pf0) HO.out.bg HO.out.sg (by have := HLG.out; omega) w6 (HO.out.rg.below HB5.out rfl) HO.out.rg2).mono ?_
    rintro e w7 ⟨rfl, b1⟩
    have HBn := Lib.hid (HB.out.trans (b1.mono HB.out.size))
    clear HB
    have HB := HBn
    clear HBn
    have HB4n := Lib.hid (HB4.out.trans (b1.mono HB4.out.size))
    clear HB4
    have HB4 := HB4n
    clear HB4n
    have HB5n := Lib.hid (HB5.out.trans (b1.mono HB5.out.size))
    clear HB5
    have HB5 := HB5n
    clear HB5n
    have HB67n := Lib.hid (HB67.out.trans (b1.mono HB67.out.size))
    clear HB67
    have HB67 := HB67n
    clear HB67n
    clear b1
    go_wp2_with fail
    refine (same_any (fun j => E.getD j rx0) (fun j => E'.getD j rx0) Ae Ae' E.length ce ce' w7 (ownR_rd HO.out.oe HB5.out) (HO.out.re2.below HB67.out rfl) HO.out.se HO.out.be (fun j hj => (HO.out.he j hj).below HB5.out) (fun j hj => (HO.out.he2 j hj).below HB67.out) (by have := HLG.out; omega)).mono ?_
    rintro e w8 ⟨rfl, b1⟩
    have HBn := Lib.hid (HB.out.trans (b1.mono HB.out.size))
    clear HB
    have HB := HBn
    clear HBn
    have HB4n := Lib.hid (HB4.out.trans (b1.mono HB4.out.size))
    clear HB4
    have HB4 := HB4n
    clear HB4n
    have HB5n := Lib.hid (HB5.out.trans (b1.mono HB5.out.size))
    clear HB5
    have HB5 := HB5n
    clear HB5n
    have HB67n := Lib.hid (HB67.out.trans (b1.mono HB67.out.size))
    clear HB67
    have HB67 := HB67n
    clear HB67n
    clear b1
    have HOE : Hid (OwnR w8 w4.heap.size 70 21 (.slice Ae E.length ce) E.length (rxB E)) := Lib.hid (HO.out.oe.below HB5.out)
    have HWE : Hid (∀ y, y ∈ E → HopW w8 w4.heap.size y) := Lib.hid (fun y hy => (HO.out.we y hy).below HB5.out)
    have hEI : (E.length : Int) ≤ 9223372036854775807 := by have := HLG.out; omega
    go_wp2_with fail
    go_loopw [61] (fun t wr => ∃ i : Nat, i ≤ E.length ∧ t = .int .i64 i ∧ Hid (OwnR wr w4.heap.size 70 21 (.slice Ae E.length ce) E.length (rxB E)) ∧ Hid (∀ y, y ∈ E → HopW wr w4.heap.size y) ∧ Hid (Below w4.heap.size w4 wr)) (fun t _ => E.length - (intOf t).toNat)
    case atStart => exact ⟨0, by omega, rfl, HOE, HWE, HB4⟩
    case round =>
      obtain ⟨i, hi, rfl, hoe, hwe, hb4⟩ := hrel
      clear HOE HWE HB4
      have HOE := hoe
      have HWE := hwe
      have HB4 := hb4
      clear hoe hwe hb4
      by_cases hin : i < E.length
      · have HIN := Lib.hid hin
        have hii : (i : Int) < (E.length : Int) := by omega
        have hi0 : (0 : Int) ≤ (i : Int) := by omega
        clear hin hi
        obtain ⟨y, hy⟩ : ∃ y, E.getD i rx0 = y := ⟨_, rfl⟩
        have HY := Lib.hid (hy)
        have HYM : Hid (y ∈ E) := Lib.hid (by rw [← hy]; exact S_mem rfl HIN.out)
        have hyI : (y.r.n : Int) ≤ 9223372036854775807 := by have h9 := (HO.out.he i HIN.out).le; rw [hy] at h9; omega
        clear hy
        obtain ⟨b0, o0, rfl, r0⟩ := (ownR_rdr HOE.out).row (by have := HIN.out; omega)
        have c20 : wr.cell? ⟨b0, o0 + i * 21 + 20, none⟩ = some (.slice y.A y.r.n y.c) := by have h9 := r0.2 i HIN.out 20 (.slice (E.getD i rx0).A (E.getD i rx0).r.n (E.getD i rx0).c) rfl; rw [HY.out] at h9; exact h9
        clear r0
        go_wp2_with fail
        clear c20
        go_loopw [70] (fun t wx => ∃ j : Nat, j ≤ y.r.n ∧ t = .int .i64 j ∧ Hid (OwnR wx w4.heap.size 70 21 (.slice (some ⟨b0, o0, none⟩) E.length ce) E.length (rxB E)) ∧ Hid (∀ y, y ∈ E → HopW wx w4.heap.size y) ∧ Hid (Below w4.heap.size w4 wx)) (fun t _ => y.r.n - (intOf t).toNat)
        case atStart => exact ⟨0, by omega, rfl, HOE, HWE, HB4⟩
        case round =>
          obtain ⟨j, hj, rfl, hoe, hwe, hb4⟩ := hrel
          clear HOE HWE HB4
          have HOE := hoe
          have HWE := hwe
          have HB4 := hb4
          clear hoe hwe hb4
          by_cases hjn : j < y.r.n
          · have HJN := Lib.hid hjn
            have hjj : (j : Int) < (y.r.n : Int) := by omega
            have hj0 : (0 : Int) ≤ (j : Int) := by omega
            clear hjn hj
            obtain ⟨gg, cur, hA, hBg, hblk, hsz, hzz⟩ := HWE.out y HYM.out (by have := HJN.out; omega)
            obtain ⟨z, hz⟩ := hzz j HJN.out
            have HBLK := Lib.hid hblk
            have HSZ : Hid (j * 7 + 1 ≤ cur.size) := Lib.hid (by have := HJN.out; omega)
            have HBG := Lib.hid (hBg)
            have cz : wr.cell? ⟨gg, j * 7, none⟩ = some (.int .i64 z) := cell_blk hblk hz
            obtain ⟨b9, o9, e9, r0⟩ := (ownR_rdr HOE.out).row (by have := HIN.out; omega)
            cases e9
            have c20 : wr.cell? ⟨b0, o0 + i * 21 + 20, none⟩ = some (.slice (some ⟨gg, 0, none⟩) y.r.n y.c) := by have h9 := r0.2 i HIN.out 20 (.slice (E.getD i rx0).A (E.getD i rx0).r.n (E.getD i rx0).c) rfl; rw [HY.out, hA] at h9; exact h9
            clear hA hBg hblk hsz hzz hz r0
            obtain ⟨xz, hxz⟩ : ∃ xz : Int, bits .xor .i64 z 1 = xz := ⟨_, rfl⟩
            have HXZ := Lib.hid (hxz)
            clear hxz
            go_wp2_with (refine wpList_v (op := ⟨some 82, _, _, _, _, _⟩) rfl (.int .i64 xz) (by rw [← HXZ.out]; exact xor1_run _ _ rfl z rfl rfl _) ?_; refine Hid.out ?_)
            refine Lib.hid ?_
            go_wp2_with (refine wpList_st rfl 3 (.tmp 84) (.tmp 82) rfl gg (j * 7) rfl (.int .i64 xz) (#[.int .i64 xz]) rfl rfl info_in (hp_one _) HBLK.out HSZ.out (C' := putMany cur (j * 7) [.int .i64 xz]) rfl ?_; intro wq q1; refine Hid.out ?_)
            refine Lib.hid ?_
            have HOEn := Lib.hid (HOE.out.stR HBLK.out (by decide) q1)
            have HWEn := Lib.hid (fun y hy => (HWE.out y hy).put HBLK.out q1)
            have HB4n := Lib.hid (HB4.out.trans (q1.2.1 _ HBG.out))
            clear HOE HWE HB4 q1 c20 cz HBLK
            go_wp2_with fail
            go_roundw
            case rel => exact ⟨j + 1, HJN.out, by go_num, HOEn, HWEn, HB4n⟩
            case measure => have := HJN.out; simp only [intOf]; omega
          · obtain hje : j = y.r.n := by omega
            subst hje
            clear hj hjn
            go_wp2_with fail
            go_roundw
            case rel => exact ⟨i + 1, HIN.out, by go_num, HOE, HWE, HB4⟩
            case measure => have := HIN.out; simp only [intOf]; omega
      · obtain hie : i = E.length := by omega
        subst hie
        clear hi hin
        obtain ⟨w9, hw9⟩ : ∃ x : World, x = wr := ⟨_, rfl⟩
        subst hw9
        clear HB HB5
        have HB := Lib.hid (HBw.out.trans (HB4.out.mono HBw.out.size))
        go_wp2_with fail
        refine (same_any (fun j => S1.getD j rx0) L0 AS1 a0 n cS1 cap0 w9 (HRS1.out.below HB4.out rfl) (HRR.out _ HB.out).1 (fun j hj => HCA.out.same j hj) (fun j hj => by rw [HCA.out.same j hj]; exact HRB.out j) (fun j hj => ((HCA.out.hop _ (S_mem HCA.out.len hj)).at).below HB4.out) (HRR.out _ HB.out).2 (by have := HN.out; have := HM.out; omega)).mono ?_
        rintro e w10 ⟨rfl, b1⟩
        have HBn := Lib.hid (HB.out.trans (b1.mono HB.out.size))
        clear HB
        have HB := HBn
        clear HBn
        have HB4n := Lib.hid (HB4.out.trans (b1.mono HB4.out.size))
        clear HB4
        have HB4 := HB4n
        clear HB4n
        clear b1
        go_wp2_with fail
        refine (same_any (fun j => S2.getD j rx0) L1 AS2 a1 m cS2 cap1 w10 (HRS2.out.below HB4.out rfl) (HRR1.out _ HB.out).1 (fun j hj => HCB.out.same j hj) (fun j hj => by rw [HCB.out.same j hj]; exact HRB1.out j) (fun j hj => ((HCB.out.hop _ (S_mem HCB.out.len hj)).at).below HB4.out) (HRR1.out _ HB.out).2 (by have := HN.out; have := HM.out; omega)).mono ?_
        rintro e w11 ⟨rfl, b1⟩
        have HBn := Lib.hid (HB.out.trans (b1.mono HB.out.size))
        clear HB
        have HB := HBn
        clear HBn
        have HB4n := Lib.hid (HB4.out.trans (b1.mono HB4.out.size))
        clear HB4
        have HB4 := HB4n
        clear HB4n
        clear b1
        rename_i hK
        refine hK _ _ ?_
        clear hK
        refine wpList_gv (op := ⟨some 97, _, _, _, _, _⟩) (w' := w11) (.bool true) (by rfl) (by go_simp) ?_
        simp only [Act.put, List.setIfInBounds_toArray, List.set_cons_zero, List.set_cons_succ]
        refine wpList_gv (op := ⟨some 4, _, _, _, _, _⟩) (w' := w11) (.bool true) (by rfl) (by go_simp) ?_
        simp only [Act.put, List.setIfInBounds_toArray, List.set_cons_zero, List.set_cons_succ]
        go_wp2
        first | (go_ret; exact ⟨rfl, HB.out⟩) | exact ⟨.bool true, by simp [results, Try.f9, go_sem], rfl, HB.out⟩ | exact bodyPost_ret (v := .bool true) (by simp [results, Try.f9, go_sem]) rfl ⟨rfl, HB.out⟩
end Go.Proofs.Ytjnbemopfhinbaa
/- For every input waymarklaw18.RibDiffs returns true and leaves its arguments as they were. No condition. -/
namespace Go.Proofs.Ytjnbemopfhinbaa
open Go.ChangeShapes Go.WideShapes Go.ChangeAt Go.RowKit
open Go.ChangeMaps (open_string shut_string)
set_option linter.unusedVariables false

namespace RibDiffs
theorem own : ownKnob Try.prog.godebug = none := by kernel_rfl
theorem laidOut : laidOutB Try.prog = true := by kernel_rfl

set_option maxRecDepth 100000 in
theorem lifted (os : Os) (started : os.Started) (H : Type) (enc : TypeId × Value → H) :
    ReturnsInHanded {} Try.checked os 9 .any (Rows.ribDiffsSpec.pre6 enc Try.prog Try.f9 Rows.ribDiffsRow.domain false) (Rows.ribDiffsSpec.post enc Try.prog Try.f9 false true false false) := by
  refine returnsInHanded_of_change_sized (C := Try.checked) own started (by kernel_rfl) Try.func9
    (ChangeSpec.witness6 (enc := enc) (C := Try.checked) false ⟨#[], #[.slice none 0 0, .slice none 0 0], []⟩ 8 (by kernel_rfl) (by kernel_rfl) (by kernel_rfl) (by kernel_rfl)) ?_
  intro W base args ds gs before hval0 hW hcnd hsz0 _
  have hval : ∀ (j : Nat) t v, Try.f9.params[j]? = some t → args[j]? = some v → Value.okWide Try.prog W .any base t v := hval0
  have hW' := hW
  obtain ⟨p, q, hA0, hV, rfl, hfz, hnd⟩ := hW
  have hA : DataW.TrodAll enc Try.prog W 0 (fun _ => true) true Try.f9.params.toList args.toList ds p := hA0
  have hsz : (DataW.weightsEach Try.prog (Try.f9.params.toList ++ Rows.ribDiffsSpec.plain.varTypes Try.prog) (ds ++ gs)).all (· ≤ reachBytes) = true := hsz0
  rw [Try.params9] at hA hval hsz
  obtain ⟨v0, vs0, d0, ds0, p0, q0, hargs, rfl, rfl, h0, r0⟩ := trodAll_cons hA
  obtain ⟨v1, vs1, d1, ds1, p1, q1, rfl, rfl, rfl, h1, r1⟩ := trodAll_cons r0
  obtain ⟨rfl, rfl, rfl⟩ := trodAll_nil r1
  obtain rfl : args = #[v0, v1] := by cases args; simp_all
  obtain ⟨rfl, rfl⟩ := trodVars_none hV
  obtain ⟨a0, len0, cap0, rfl⟩ := okWide_slice Try.underlying60 (hval 0 60 v0 rfl rfl)
  have k0 := h0
  have lt0 : ∀ x ∈ p0, x.block < W.heap.size := by obtain ⟨m, hm⟩ := k0; exact DataW.trod_lt m _ _ _ hm
  obtain ⟨L0, w0⟩ := open_rts h0 (fun n hn => by
    have := List.all_eq_true.1 hsz n (DataW.weights_mem_each (j := 0) (t := 60) (d := d0) rfl rfl n hn)
    exact of_decide_eq_true this)
  obtain ⟨a1, len1, cap1, rfl⟩ := okWide_slice Try.underlying60 (hval 1 60 v1 rfl rfl)
  have k1 := h1
  have lt1 : ∀ x ∈ p1, x.block < W.heap.size := by obtain ⟨m, hm⟩ := k1; exact DataW.trod_lt m _ _ _ hm
  obtain ⟨L1, w1⟩ := open_rts h1 (fun n hn => by
    have := List.all_eq_true.1 hsz n (DataW.weights_mem_each (j := 1) (t := 60) (d := d1) rfl rfl n hn)
    exact of_decide_eq_true this)
  clear hA0 hval0
  refine (walkRibDiffs a0 len0 cap0 L0 a1 len1 cap1 L1 W w0 w1).mono fun e W' ⟨he, bel⟩ => ?_
  subst he
  exact ⟨_, rfl, _, _, _, [], _, [], hW', trodAll_mk1 (shut_bool Try.underlying4 _), (trodAll_cons_mk (Below.trod laidOut (by kernel_rfl) (of_decide_eq_true (by kernel_rfl)) k0 bel lt0) (trodAll_cons_mk (Below.trod laidOut (by kernel_rfl) (of_decide_eq_true (by kernel_rfl)) k1 bel lt1) trodAll_mk0)), rfl, bel.frame _, fun h => by cases h⟩
end RibDiffs

theorem ribDiffs_holds : Rows.RibDiffsSaid :=
  OpenClaim.holds_of_wide 9 Try.f9 rfl rfl rfl rfl rfl rfl rfl ⟨rfl, rfl, rfl, rfl, rfl⟩ rfl rfl rfl rfl rfl (by kernel_rfl) Try.func9 (by kernel_rfl)
    (of_decide_eq_true (by kernel_rfl)) (by unfold Func.isWrapper; first | (rw [if_pos (by decide +kernel)]; kernel_rfl) | (rw [if_neg (by decide +kernel)]; exact ⟨rfl, rfl⟩))
    (fun os started H enc _ => RibDiffs.lifted os started H enc)
#print axioms ribDiffs_holds
end Go.Proofs.Ytjnbemopfhinbaa
