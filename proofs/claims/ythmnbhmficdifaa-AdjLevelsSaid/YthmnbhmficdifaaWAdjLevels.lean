/- The walk of AdjLevels: for every input the law returns true, and nothing that was there is written. No condition. -/
import Derived.Test.YthmnbhmficdifaaASameN
import Derived.Deep.DeepCutAuto
namespace Go.Proofs.Ythmnbhmficdifaa
open Go.RowKit
set_option linter.unusedVariables false

set_option maxHeartbeats 8000000 in
set_option maxRecDepth 100000 in
theorem walkAdjLevels (l : Lo) (L : Nat → Sl) (h : He) (H : Nat → Sl) (now : Int) (w : World) (w0 : InLo w l L) (w1 : InHe w h H) (w2 : (Lit.int .i64 now).wf = true) :
    Calls Try.prog 8 #[.agg (loC l), .agg (heC h), .int .i64 now] w fun e w' => e = .returned (.bool true) ∧ Below w.heap.size w w' := by
  obtain ⟨⟨hyl, _, _⟩, hrl, _, hml1, hml2⟩ := w0
  obtain ⟨⟨hyh, _, _, _, _, hyt, _⟩, hrh, _, hmh1, hmh2⟩ := w1
  have HRL := Lib.hid hrl
  have HRH := Lib.hid hrh
  have HML : Hid (l.m * 24 ≤ 140737488351232) := Lib.hid (by omega)
  have HMH : Hid (h.m * 24 ≤ 140737488351232) := Lib.hid (by omega)
  have hmlb : l.m ≤ 9223372036854775807 := by omega
  have hmhb : h.m ≤ 9223372036854775807 := by omega
  obtain ⟨R1, hR1⟩ : ∃ R, stepR l ajD h now (shB L l.m H h.m) = R := ⟨_, rfl⟩
  have HLV := Lib.hid (stepR_levels l h now _ R1 hR1)
  have HYL := Lib.hid hyl
  have HYA1 : Hid (byB ajD.p) := Lib.hid by_z0
  have HYH := Lib.hid hyh
  have HYT := Lib.hid hyt
  have HR1 := Lib.hid hR1
  have HSD := Lib.hid (self_ajP ajD by_z0)
  clear hrl hrh hml1 hml2 hmh1 hmh2 hyl hyh hyt hR1 w2
  go_enter Try.func8, Try.ntmps8
  have HB := Lib.hid (Below.refl w.heap.size w)
  obtain ⟨N1, hN1⟩ : ∃ N, w.heap.size = N := ⟨_, rfl⟩
  have HN1 := Lib.hid hN1
  clear hN1
  go_wp2_with (refine wpList_box (op := ⟨some 3, _, _, _, _, _⟩) rfl 26 (.tmp 0) rfl (loC l) rfl N1 HN1.out ?_; intro w1 k1 b1 s1; refine Hid.out ?_)
  refine Lib.hid ?_
  have K1 := Lib.hid k1
  clear k1
  have le_HB_N1 : w.heap.size ≤ N1 := by rw [← HN1.out]; exact HB.out.size
  have HBn := Lib.hid (HB.out.trans (b1.mono HB.out.size))
  clear HB
  have HB := HBn
  clear HBn
  clear b1 HN1
  obtain ⟨N2, hN2⟩ : ∃ N, w1.heap.size = N := ⟨_, rfl⟩
  have HN2 := Lib.hid hN2
  clear hN2
  go_wp2_with (refine wpList_box (op := ⟨some 4, _, _, _, _, _⟩) rfl 30 (.tmp 1) rfl (heC h) rfl N2 HN2.out ?_; intro w2 k1 b1 s1; refine Hid.out ?_)
  refine Lib.hid ?_
  have K3 := Lib.hid k1
  clear k1
  have lt_N1_N2 : N1 < N2 := by rw [← HN2.out]; exact K1.out.lt
  have le_HB_N2 : w.heap.size ≤ N2 := by rw [← HN2.out]; exact HB.out.size
  have K1n := Lib.hid (K1.out.below b1 K1.out.lt)
  clear K1
  have K1 := K1n
  clear K1n
  have HBn := Lib.hid (HB.out.trans (b1.mono HB.out.size))
  clear HB
  have HB := HBn
  clear HBn
  clear b1 HN2
  go_wp2_with fail
  refine (awake_any _).mono ?_
  rintro e w3 ⟨rfl, b1⟩
  have K1n := Lib.hid (K1.out.below b1 K1.out.lt)
  clear K1
  have K1 := K1n
  clear K1n
  have K3n := Lib.hid (K3.out.below b1 K3.out.lt)
  clear K3
  have K3 := K3n
  clear K3n
  have HBn := Lib.hid (HB.out.trans (b1.mono HB.out.size))
  clear HB
  have HB := HBn
  clear HBn
  clear b1
  go_wp2_with fail
  go_cut [7, 8] (fun s1 s2 wc => ∃ N, s1 = .pointer (some ⟨N, 0, none⟩) ∧ s2 = .int .i64 R1.2 ∧ Hid (Blk 36 wc N (ajC R1.1)) ∧ N1 < N ∧ Hid (Blk 26 wc N1 (loC l)) ∧ N2 < N ∧ Hid (Blk 30 wc N2 (heC h)) ∧ w.heap.size ≤ N ∧ Hid (Below w.heap.size w wc))
  case first =>
    refine wp_region_held_drew (S := fun w' => Blk 26 w' N1 (loC l) ∧ Blk 30 w' N2 (heC h) ∧ Below w.heap.size w w') (by kernel_rfl) ⟨K1.out, K3.out, HB.out.drew⟩ (fun hS => ?_)
    generalize hW4 : w3.drew = W4 at hS ⊢
    clear hW4
    clear K1
    clear K3
    clear HB
    have K1 := Lib.hid hS.1
    have K3 := Lib.hid hS.2.1
    have HB := Lib.hid hS.2.2
    refine takeL (i := 0) (some 17) 26 (.tmp 3) N1 0 (loC l) _ rfl rfl (by kernel_rfl) (by kernel_rfl) (by kernel_rfl) (fun _ _ _ h => h) (by rfl) rfl rfl (fun w' hS => hS.1.all) Try.underlying26 rfl info_loR hS ?_
    simp only [Act.put, List.setIfInBounds_toArray, List.set_cons_zero, List.set_cons_succ]
    refine takeY (i := 2) (some 19) (v := .agg (ajC ajD)) rfl rfl (by kernel_rfl) (by kernel_rfl) (by kernel_rfl) (fun _ _ _ h => h) (by rfl) (fun w' hS => by kernel_rfl) hS ?_
    simp only [Act.put, List.setIfInBounds_toArray, List.set_cons_zero, List.set_cons_succ]
    refine takeL (i := 3) (some 20) 30 (.tmp 4) N2 0 (heC h) _ rfl rfl (by kernel_rfl) (by kernel_rfl) (by kernel_rfl) (fun _ _ _ h => h) (by rfl) rfl rfl (fun w' hS => hS.2.1.all) Try.underlying30 rfl info_heR hS ?_
    simp only [Act.put, List.setIfInBounds_toArray, List.set_cons_zero, List.set_cons_succ]
    refine takeY (i := 5) (some 22) (v := .int .i64 now) rfl rfl (by kernel_rfl) (by kernel_rfl) (by kernel_rfl) (fun _ _ _ h => h) (by rfl) (fun w' hS => by go_simp) hS ?_
    simp only [Act.put, List.setIfInBounds_toArray, List.set_cons_zero, List.set_cons_succ]
    obtain ⟨M0, hM0⟩ : ∃ N, W4.heap.size = N := ⟨_, rfl⟩
    have HM0 := Lib.hid hM0
    clear hM0
    refine wpAnyH_ready (show Region.ready _ _ _ = [1, 10] from by kernel_rfl) (by simp) (consCE (i := 1) (some 18) 11 #[.agg (loC l)] (R := fun v w' => LocV W4 l L v w') rfl rfl (by rfl) (by go_simp) (local_v l L W4 (HRL.out.below HB.out) HML.out) (fun v w' h => by obtain ⟨A1, c1, L1, rfl, hr1, hs1, hb1⟩ := h; exact ⟨hS.1.below hb1 hS.1.lt, hS.2.1.below hb1 hS.2.1.lt, hS.2.2.trans (hb1.mono hS.2.2.size)⟩) ?_ (consMk (i := 10) (some 7) 36 (ajC aj0) rfl rfl (by rfl) rfl zero_ajP M0 HM0.out ?_ AllReadyH.nil))
    · skip
      clear HM0
      intro v W5 h hS2
      obtain ⟨A1, c1, L1, rfl, hr1, hs1, hb1⟩ := h
      simp only [Act.put, List.setIfInBounds_toArray, List.set_cons_zero, List.set_cons_succ]
      clear K1
      clear K3
      clear HB
      clear hS
      have hS := hS2
      clear hS2
      have K1 := Lib.hid hS.1
      have K3 := Lib.hid hS.2.1
      have HB := Lib.hid hS.2.2
      have HXL := Lib.hid hr1
      have HSL := Lib.hid hs1
      clear hr1 hs1 hb1
      obtain ⟨M1, hM1⟩ : ∃ N, W5.heap.size = N := ⟨_, rfl⟩
      have HM1 := Lib.hid hM1
      clear hM1
      refine wpAnyH_ready (show Region.ready _ _ _ = [4, 10] from by kernel_rfl) (by simp) (consCE (i := 4) (some 21) 12 #[.agg (heC h)] (R := fun v w' => HelV W5 h H v w') rfl rfl (by rfl) (by go_simp) (hello_v h H W5 (HRH.out.below HB.out) HMH.out) (fun v w' h => by obtain ⟨B1, d1, H1, rfl, hr1, hs1, hb1⟩ := h; exact ⟨hS.1.below hb1 hS.1.lt, hS.2.1.below hb1 hS.2.1.lt, hS.2.2.trans (hb1.mono hS.2.2.size)⟩) ?_ (consMk (i := 10) (some 7) 36 (ajC aj0) rfl rfl (by rfl) rfl zero_ajP M1 HM1.out ?_ AllReadyH.nil))
      · skip
        clear HM1
        intro v W6 h hS2
        obtain ⟨B1, d1, H1, rfl, hr1, hs1, hb1⟩ := h
        simp only [Act.put, List.setIfInBounds_toArray, List.set_cons_zero, List.set_cons_succ]
        have HXLn := Lib.hid (HXL.out.below hb1)
        clear HXL
        have HXL := HXLn
        clear HXLn
        clear K1
        clear K3
        clear HB
        clear hS
        have hS := hS2
        clear hS2
        have K1 := Lib.hid hS.1
        have K3 := Lib.hid hS.2.1
        have HB := Lib.hid hS.2.2
        have HXH := Lib.hid hr1
        have HSH := Lib.hid hs1
        clear hr1 hs1 hb1
        obtain ⟨M2, hM2⟩ : ∃ N, W6.heap.size = N := ⟨_, rfl⟩
        have HM2 := Lib.hid hM2
        clear hM2
        refine wpAnyH_ready (show Region.ready _ _ _ = [6, 10] from by kernel_rfl) (by simp) (consC (i := 6) (some 23) 13 #[.agg (loC ⟨l.s, l.nu, l.lv, A1, l.m, c1⟩), .agg (ajC ajD), .agg (heC ⟨h.s, h.nu, h.lv, h.ho, B1, h.m, d1, h.st, h.nm, h.th, h.tn⟩), .int .i64 now] (.tuple #[.agg (ajC R1.1), .int .i64 R1.2]) (R := fun w' => Below W6.heap.size W6 w') rfl rfl (by rfl) (by go_simp) (step_law l ajD h now L H L1 H1 A1 B1 c1 d1 _ HYL.out HYA1.out HYH.out HYT.out HXL.out HXH.out (by have := HML.out; omega) (by have := HMH.out; omega) HSL.out HSH.out R1 HR1.out) (fun w' hb => ⟨hS.1.below hb hS.1.lt, hS.2.1.below hb hS.2.1.lt, hS.2.2.trans (hb.mono hS.2.2.size)⟩) ?_ (consMk (i := 10) (some 7) 36 (ajC aj0) rfl rfl (by rfl) rfl zero_ajP M2 HM2.out ?_ AllReadyH.nil))
        · skip
          clear HM2
          intro W7 hb1 hS2
          simp only [Act.put, List.setIfInBounds_toArray, List.set_cons_zero, List.set_cons_succ]
          have HXLn := Lib.hid (HXL.out.below hb1)
          clear HXL
          have HXL := HXLn
          clear HXLn
          have HXHn := Lib.hid (HXH.out.below hb1)
          clear HXH
          have HXH := HXHn
          clear HXHn
          clear K1
          clear K3
          clear HB
          clear hS
          have hS := hS2
          clear hS2
          have K1 := Lib.hid hS.1
          have K3 := Lib.hid hS.2.1
          have HB := Lib.hid hS.2.2
          clear HXL HXH HSL HSH
          clear hb1
          obtain ⟨M3, hM3⟩ : ∃ N, W7.heap.size = N := ⟨_, rfl⟩
          have HM3 := Lib.hid hM3
          clear hM3
          refine takeY (i := 7) (some 16) (v := .tuple #[.agg (ajC R1.1), .int .i64 R1.2]) rfl rfl (by kernel_rfl) (by kernel_rfl) (by kernel_rfl) (fun _ _ _ h => h) (by rfl) (fun w' hS => by go_simp) hS ?_
          simp only [Act.put, List.setIfInBounds_toArray, List.set_cons_zero, List.set_cons_succ]
          refine takeY (i := 8) (some 24) (v := .agg (ajC R1.1)) rfl rfl (by kernel_rfl) (by kernel_rfl) (by kernel_rfl) (fun _ _ _ h => h) (by rfl) (fun w' hS => by go_simp) hS ?_
          simp only [Act.put, List.setIfInBounds_toArray, List.set_cons_zero, List.set_cons_succ]
          refine takeY (i := 9) (some 25) (v := .int .i64 R1.2) rfl rfl (by kernel_rfl) (by kernel_rfl) (by kernel_rfl) (fun _ _ _ h => h) (by rfl) (fun w' hS => by go_simp) hS ?_
          simp only [Act.put, List.setIfInBounds_toArray, List.set_cons_zero, List.set_cons_succ]
          refine takeMk (i := 10) (some 7) 36 (ajC aj0) rfl rfl (by kernel_rfl) (by rfl) rfl zero_ajP M3 HM3.out ?_
          intro W8 k1 b1 s1
          refine ⟨⟨hS.1.below b1 hS.1.lt, hS.2.1.below b1 hS.2.1.lt, hS.2.2.trans (b1.mono hS.2.2.size)⟩, ?_⟩
          simp only [Act.put, List.setIfInBounds_toArray, List.set_cons_zero, List.set_cons_succ]
          have K4 := Lib.hid k1
          clear k1
          have lt_N1_M3 : N1 < M3 := by rw [← HM3.out]; exact K1.out.lt
          have lt_N2_M3 : N2 < M3 := by rw [← HM3.out]; exact K3.out.lt
          have le_HB_M3 : w.heap.size ≤ M3 := by rw [← HM3.out]; exact HB.out.size
          have K1n := Lib.hid (K1.out.below b1 K1.out.lt)
          clear K1
          have K1 := K1n
          clear K1n
          have K3n := Lib.hid (K3.out.below b1 K3.out.lt)
          clear K3
          have K3 := K3n
          clear K3n
          have HBn := Lib.hid (HB.out.trans (b1.mono HB.out.size))
          clear HB
          have HB := HBn
          clear HBn
          clear b1 HM3 hS
          have hS := (And.intro K1.out (And.intro K3.out HB.out))
          refine takeSt (i := 11) 36 (.tmp 7) (.tmp 24) M3 0 (.agg (ajC R1.1)) (ajC R1.1) (ajC R1.1) rfl rfl (by kernel_rfl) (by rfl) rfl rfl rfl rfl info_ajP (ajC_one _) K4.out (Nat.le_of_ble_eq_true rfl) (by kernel_rfl) ?_
          intro W9 q1
          refine ⟨⟨K1.out.far q1 (by omega), K3.out.far q1 (by omega), HB.out.trans (q1.2.1 _ (by omega))⟩, ?_⟩
          simp only [Act.put, List.setIfInBounds_toArray, List.set_cons_zero, List.set_cons_succ]
          have K4n : Hid (Blk 36 W9 M3 (ajC R1.1)) := Lib.hid q1.1
          clear K4
          have K4 := K4n
          clear K4n
          have K1n := Lib.hid (K1.out.far q1 (by omega))
          clear K1
          have K1 := K1n
          clear K1n
          have K3n := Lib.hid (K3.out.far q1 (by omega))
          clear K3
          have K3 := K3n
          clear K3n
          have HBn := Lib.hid (HB.out.trans (q1.2.1 _ (by omega)))
          clear HB
          have HB := HBn
          clear HBn
          clear q1 hS
          have hS := (And.intro K1.out (And.intro K3.out HB.out))
          refine takeY (i := 12) (some 8) (v := .int .i64 R1.2) rfl rfl (by kernel_rfl) (by kernel_rfl) (by kernel_rfl) (fun _ _ _ h => h) (by rfl) (fun w' hS => by go_simp) hS ?_
          simp only [Act.put, List.setIfInBounds_toArray, List.set_cons_zero, List.set_cons_succ]
          clear hS
          refine wpAnyH_done (by kernel_rfl) ?_ _
          go_wp2_with fail
          go_meet
          case rel => exact ⟨M3, rfl, rfl, K4, lt_N1_M3, K1, lt_N2_M3, K3, le_HB_M3, HB⟩
        · skip
          intro W8 k1 b1 s1
          refine ⟨⟨hS.1.below b1 hS.1.lt, hS.2.1.below b1 hS.2.1.lt, hS.2.2.trans (b1.mono hS.2.2.size)⟩, ?_⟩
          simp only [Act.put, List.setIfInBounds_toArray, List.set_cons_zero, List.set_cons_succ]
          have K4 := Lib.hid k1
          clear k1
          have lt_N1_M2 : N1 < M2 := by rw [← HM2.out]; exact K1.out.lt
          have lt_N2_M2 : N2 < M2 := by rw [← HM2.out]; exact K3.out.lt
          have le_HB_M2 : w.heap.size ≤ M2 := by rw [← HM2.out]; exact HB.out.size
          have HXLn := Lib.hid (HXL.out.below b1)
          clear HXL
          have HXL := HXLn
          clear HXLn
          have HXHn := Lib.hid (HXH.out.below b1)
          clear HXH
          have HXH := HXHn
          clear HXHn
          have K1n := Lib.hid (K1.out.below b1 K1.out.lt)
          clear K1
          have K1 := K1n
          clear K1n
          have K3n := Lib.hid (K3.out.below b1 K3.out.lt)
          clear K3
          have K3 := K3n
          clear K3n
          have HBn := Lib.hid (HB.out.trans (b1.mono HB.out.size))
          clear HB
          have HB := HBn
          clear HBn
          clear b1 HM2 hS
          have hS := (And.intro K1.out (And.intro K3.out HB.out))
          refine takeC (i := 6) (some 23) 13 #[.agg (loC ⟨l.s, l.nu, l.lv, A1, l.m, c1⟩), .agg (ajC ajD), .agg (heC ⟨h.s, h.nu, h.lv, h.ho, B1, h.m, d1, h.st, h.nm, h.th, h.tn⟩), .int .i64 now] (.tuple #[.agg (ajC R1.1), .int .i64 R1.2]) (R := fun w' => Below W8.heap.size W8 w') rfl rfl (by kernel_rfl) (by rfl) (by go_simp) (step_law l ajD h now L H L1 H1 A1 B1 c1 d1 _ HYL.out HYA1.out HYH.out HYT.out HXL.out HXH.out (by have := HML.out; omega) (by have := HMH.out; omega) HSL.out HSH.out R1 HR1.out) (fun w' hb => ⟨hS.1.below hb hS.1.lt, hS.2.1.below hb hS.2.1.lt, hS.2.2.trans (hb.mono hS.2.2.size)⟩) ?_
          intro W9 hb1 hS2
          simp only [Act.put, List.setIfInBounds_toArray, List.set_cons_zero, List.set_cons_succ]
          have HXLn := Lib.hid (HXL.out.below hb1)
          clear HXL
          have HXL := HXLn
          clear HXLn
          have HXHn := Lib.hid (HXH.out.below hb1)
          clear HXH
          have HXH := HXHn
          clear HXHn
          have K4n := Lib.hid (K4.out.below hb1 K4.out.lt)
          clear K4
          have K4 := K4n
          clear K4n
          clear K1
          clear K3
          clear HB
          clear hS
          have hS := hS2
          clear hS2
          have K1 := Lib.hid hS.1
          have K3 := Lib.hid hS.2.1
          have HB := Lib.hid hS.2.2
          clear HXL HXH HSL HSH
          clear hb1
          refine takeY (i := 7) (some 16) (v := .tuple #[.agg (ajC R1.1), .int .i64 R1.2]) rfl rfl (by kernel_rfl) (by kernel_rfl) (by kernel_rfl) (fun _ _ _ h => h) (by rfl) (fun w' hS => by go_simp) hS ?_
          simp only [Act.put, List.setIfInBounds_toArray, List.set_cons_zero, List.set_cons_succ]
          refine takeY (i := 8) (some 24) (v := .agg (ajC R1.1)) rfl rfl (by kernel_rfl) (by kernel_rfl) (by kernel_rfl) (fun _ _ _ h => h) (by rfl) (fun w' hS => by go_simp) hS ?_
          simp only [Act.put, List.setIfInBounds_toArray, List.set_cons_zero, List.set_cons_succ]
          refine takeY (i := 9) (some 25) (v := .int .i64 R1.2) rfl rfl (by kernel_rfl) (by kernel_rfl) (by kernel_rfl) (fun _ _ _ h => h) (by rfl) (fun w' hS => by go_simp) hS ?_
          simp only [Act.put, List.setIfInBounds_toArray, List.set_cons_zero, List.set_cons_succ]
          refine takeSt (i := 11) 36 (.tmp 7) (.tmp 24) M2 0 (.agg (ajC R1.1)) (ajC R1.1) (ajC R1.1) rfl rfl (by kernel_rfl) (by rfl) rfl rfl rfl rfl info_ajP (ajC_one _) K4.out (Nat.le_of_ble_eq_true rfl) (by kernel_rfl) ?_
          intro W10 q1
          refine ⟨⟨K1.out.far q1 (by omega), K3.out.far q1 (by omega), HB.out.trans (q1.2.1 _ (by omega))⟩, ?_⟩
          simp only [Act.put, List.setIfInBounds_toArray, List.set_cons_zero, List.set_cons_succ]
          have K4n : Hid (Blk 36 W10 M2 (ajC R1.1)) := Lib.hid q1.1
          clear K4
          have K4 := K4n
          clear K4n
          have K1n := Lib.hid (K1.out.far q1 (by omega))
          clear K1
          have K1 := K1n
          clear K1n
          have K3n := Lib.hid (K3.out.far q1 (by omega))
          clear K3
          have K3 := K3n
          clear K3n
          have HBn := Lib.hid (HB.out.trans (q1.2.1 _ (by omega)))
          clear HB
          have HB := HBn
          clear HBn
          clear q1 hS
          have hS := (And.intro K1.out (And.intro K3.out HB.out))
          refine takeY (i := 12) (some 8) (v := .int .i64 R1.2) rfl rfl (by kernel_rfl) (by kernel_rfl) (by kernel_rfl) (fun _ _ _ h => h) (by rfl) (fun w' hS => by go_simp) hS ?_
          simp only [Act.put, List.setIfInBounds_toArray, List.set_cons_zero, List.set_cons_succ]
          clear hS
          refine wpAnyH_done (by kernel_rfl) ?_ _
          go_wp2_with fail
          go_meet
          case rel => exact ⟨M2, rfl, rfl, K4, lt_N1_M2, K1, lt_N2_M2, K3, le_HB_M2, HB⟩
      · skip
        intro W7 k1 b1 s1
        refine ⟨⟨hS.1.below b1 hS.1.lt, hS.2.1.below b1 hS.2.1.lt, hS.2.2.trans (b1.mono hS.2.2.size)⟩, ?_⟩
        simp only [Act.put, List.setIfInBounds_toArray, List.set_cons_zero, List.set_cons_succ]
        have K4 := Lib.hid k1
        clear k1
        have lt_N1_M1 : N1 < M1 := by rw [← HM1.out]; exact K1.out.lt
        have lt_N2_M1 : N2 < M1 := by rw [← HM1.out]; exact K3.out.lt
        have le_HB_M1 : w.heap.size ≤ M1 := by rw [← HM1.out]; exact HB.out.size
        have HXLn := Lib.hid (HXL.out.below b1)
        clear HXL
        have HXL := HXLn
        clear HXLn
        have K1n := Lib.hid (K1.out.below b1 K1.out.lt)
        clear K1
        have K1 := K1n
        clear K1n
        have K3n := Lib.hid (K3.out.below b1 K3.out.lt)
        clear K3
        have K3 := K3n
        clear K3n
        have HBn := Lib.hid (HB.out.trans (b1.mono HB.out.size))
        clear HB
        have HB := HBn
        clear HBn
        clear b1 HM1 hS
        have hS := (And.intro K1.out (And.intro K3.out HB.out))
        refine takeCE (i := 4) (some 21) 12 #[.agg (heC h)] (R := fun v w' => HelV W7 h H v w') rfl rfl (by kernel_rfl) (by rfl) (by go_simp) (hello_v h H W7 (HRH.out.below HB.out) HMH.out) (fun v w' h => by obtain ⟨B1, d1, H1, rfl, hr1, hs1, hb1⟩ := h; exact ⟨hS.1.below hb1 hS.1.lt, hS.2.1.below hb1 hS.2.1.lt, hS.2.2.trans (hb1.mono hS.2.2.size)⟩) ?_
        intro v W8 h hS2
        obtain ⟨B1, d1, H1, rfl, hr1, hs1, hb1⟩ := h
        simp only [Act.put, List.setIfInBounds_toArray, List.set_cons_zero, List.set_cons_succ]
        have HXLn := Lib.hid (HXL.out.below hb1)
        clear HXL
        have HXL := HXLn
        clear HXLn
        have K4n := Lib.hid (K4.out.below hb1 K4.out.lt)
        clear K4
        have K4 := K4n
        clear K4n
        clear K1
        clear K3
        clear HB
        clear hS
        have hS := hS2
        clear hS2
        have K1 := Lib.hid hS.1
        have K3 := Lib.hid hS.2.1
        have HB := Lib.hid hS.2.2
        have HXH := Lib.hid hr1
        have HSH := Lib.hid hs1
        clear hr1 hs1 hb1
        refine takeC (i := 6) (some 23) 13 #[.agg (loC ⟨l.s, l.nu, l.lv, A1, l.m, c1⟩), .agg (ajC ajD), .agg (heC ⟨h.s, h.nu, h.lv, h.ho, B1, h.m, d1, h.st, h.nm, h.th, h.tn⟩), .int .i64 now] (.tuple #[.agg (ajC R1.1), .int .i64 R1.2]) (R := fun w' => Below W8.heap.size W8 w') rfl rfl (by kernel_rfl) (by rfl) (by go_simp) (step_law l ajD h now L H L1 H1 A1 B1 c1 d1 _ HYL.out HYA1.out HYH.out HYT.out HXL.out HXH.out (by have := HML.out; omega) (by have := HMH.out; omega) HSL.out HSH.out R1 HR1.out) (fun w' hb => ⟨hS.1.below hb hS.1.lt, hS.2.1.below hb hS.2.1.lt, hS.2.2.trans (hb.mono hS.2.2.size)⟩) ?_
        intro W9 hb1 hS2
        simp only [Act.put, List.setIfInBounds_toArray, List.set_cons_zero, List.set_cons_succ]
        have HXLn := Lib.hid (HXL.out.below hb1)
        clear HXL
        have HXL := HXLn
        clear HXLn
        have HXHn := Lib.hid (HXH.out.below hb1)
        clear HXH
        have HXH := HXHn
        clear HXHn
        have K4n := Lib.hid (K4.out.below hb1 K4.out.lt)
        clear K4
        have K4 := K4n
        clear K4n
        clear K1
        clear K3
        clear HB
        clear hS
        have hS := hS2
        clear hS2
        have K1 := Lib.hid hS.1
        have K3 := Lib.hid hS.2.1
        have HB := Lib.hid hS.2.2
        clear HXL HXH HSL HSH
        clear hb1
        refine takeY (i := 7) (some 16) (v := .tuple #[.agg (ajC R1.1), .int .i64 R1.2]) rfl rfl (by kernel_rfl) (by kernel_rfl) (by kernel_rfl) (fun _ _ _ h => h) (by rfl) (fun w' hS => by go_simp) hS ?_
        simp only [Act.put, List.setIfInBounds_toArray, List.set_cons_zero, List.set_cons_succ]
        refine takeY (i := 8) (some 24) (v := .agg (ajC R1.1)) rfl rfl (by kernel_rfl) (by kernel_rfl) (by kernel_rfl) (fun _ _ _ h => h) (by rfl) (fun w' hS => by go_simp) hS ?_
        simp only [Act.put, List.setIfInBounds_toArray, List.set_cons_zero, List.set_cons_succ]
        refine takeY (i := 9) (some 25) (v := .int .i64 R1.2) rfl rfl (by kernel_rfl) (by kernel_rfl) (by kernel_rfl) (fun _ _ _ h => h) (by rfl) (fun w' hS => by go_simp) hS ?_
        simp only [Act.put, List.setIfInBounds_toArray, List.set_cons_zero, List.set_cons_succ]
        refine takeSt (i := 11) 36 (.tmp 7) (.tmp 24) M1 0 (.agg (ajC R1.1)) (ajC R1.1) (ajC R1.1) rfl rfl (by kernel_rfl) (by rfl) rfl rfl rfl rfl info_ajP (ajC_one _) K4.out (Nat.le_of_ble_eq_true rfl) (by kernel_rfl) ?_
        intro W10 q1
        refine ⟨⟨K1.out.far q1 (by omega), K3.out.far q1 (by omega), HB.out.trans (q1.2.1 _ (by omega))⟩, ?_⟩
        simp only [Act.put, List.setIfInBounds_toArray, List.set_cons_zero, List.set_cons_succ]
        have K4n : Hid (Blk 36 W10 M1 (ajC R1.1)) := Lib.hid q1.1
        clear K4
        have K4 := K4n
        clear K4n
        have K1n := Lib.hid (K1.out.far q1 (by omega))
        clear K1
        have K1 := K1n
        clear K1n
        have K3n := Lib.hid (K3.out.far q1 (by omega))
        clear K3
        have K3 := K3n
        clear K3n
        have HBn := Lib.hid (HB.out.trans (q1.2.1 _ (by omega)))
        clear HB
        have HB := HBn
        clear HBn
        clear q1 hS
        have hS := (And.intro K1.out (And.intro K3.out HB.out))
        refine takeY (i := 12) (some 8) (v := .int .i64 R1.2) rfl rfl (by kernel_rfl) (by kernel_rfl) (by kernel_rfl) (fun _ _ _ h => h) (by rfl) (fun w' hS => by go_simp) hS ?_
        simp only [Act.put, List.setIfInBounds_toArray, List.set_cons_zero, List.set_cons_succ]
        clear hS
        refine wpAnyH_done (by kernel_rfl) ?_ _
        go_wp2_with fail
        go_meet
        case rel => exact ⟨M1, rfl, rfl, K4, lt_N1_M1, K1, lt_N2_M1, K3, le_HB_M1, HB⟩
    · skip
      intro W6 k1 b1 s1
      refine ⟨⟨hS.1.below b1 hS.1.lt, hS.2.1.below b1 hS.2.1.lt, hS.2.2.trans (b1.mono hS.2.2.size)⟩, ?_⟩
      simp only [Act.put, List.setIfInBounds_toArray, List.set_cons_zero, List.set_cons_succ]
      have K4 := Lib.hid k1
      clear k1
      have lt_N1_M0 : N1 < M0 := by rw [← HM0.out]; exact K1.out.lt
      have lt_N2_M0 : N2 < M0 := by rw [← HM0.out]; exact K3.out.lt
      have le_HB_M0 : w.heap.size ≤ M0 := by rw [← HM0.out]; exact HB.out.size
      have K1n := Lib.hid (K1.out.below b1 K1.out.lt)
      clear K1
      have K1 := K1n
      clear K1n
      have K3n := Lib.hid (K3.out.below b1 K3.out.lt)
      clear K3
      have K3 := K3n
      clear K3n
      have HBn := Lib.hid (HB.out.trans (b1.mono HB.out.size))
      clear HB
      have HB := HBn
      clear HBn
      clear b1 HM0 hS
      have hS := (And.intro K1.out (And.intro K3.out HB.out))
      refine takeCE (i := 1) (some 18) 11 #[.agg (loC l)] (R := fun v w' => LocV W6 l L v w') rfl rfl (by kernel_rfl) (by rfl) (by go_simp) (local_v l L W6 (HRL.out.below HB.out) HML.out) (fun v w' h => by obtain ⟨A1, c1, L1, rfl, hr1, hs1, hb1⟩ := h; exact ⟨hS.1.below hb1 hS.1.lt, hS.2.1.below hb1 hS.2.1.lt, hS.2.2.trans (hb1.mono hS.2.2.size)⟩) ?_
      intro v W7 h hS2
      obtain ⟨A1, c1, L1, rfl, hr1, hs1, hb1⟩ := h
      simp only [Act.put, List.setIfInBounds_toArray, List.set_cons_zero, List.set_cons_succ]
      have K4n := Lib.hid (K4.out.below hb1 K4.out.lt)
      clear K4
      have K4 := K4n
      clear K4n
      clear K1
      clear K3
      clear HB
      clear hS
      have hS := hS2
      clear hS2
      have K1 := Lib.hid hS.1
      have K3 := Lib.hid hS.2.1
      have HB := Lib.hid hS.2.2
      have HXL := Lib.hid hr1
      have HSL := Lib.hid hs1
      clear hr1 hs1 hb1
      refine takeCE (i := 4) (some 21) 12 #[.agg (heC h)] (R := fun v w' => HelV W7 h H v w') rfl rfl (by kernel_rfl) (by rfl) (by go_simp) (hello_v h H W7 (HRH.out.below HB.out) HMH.out) (fun v w' h => by obtain ⟨B1, d1, H1, rfl, hr1, hs1, hb1⟩ := h; exact ⟨hS.1.below hb1 hS.1.lt, hS.2.1.below hb1 hS.2.1.lt, hS.2.2.trans (hb1.mono hS.2.2.size)⟩) ?_
      intro v W8 h hS2
      obtain ⟨B1, d1, H1, rfl, hr1, hs1, hb1⟩ := h
      simp only [Act.put, List.setIfInBounds_toArray, List.set_cons_zero, List.set_cons_succ]
      have HXLn := Lib.hid (HXL.out.below hb1)
      clear HXL
      have HXL := HXLn
      clear HXLn
      have K4n := Lib.hid (K4.out.below hb1 K4.out.lt)
      clear K4
      have K4 := K4n
      clear K4n
      clear K1
      clear K3
      clear HB
      clear hS
      have hS := hS2
      clear hS2
      have K1 := Lib.hid hS.1
      have K3 := Lib.hid hS.2.1
      have HB := Lib.hid hS.2.2
      have HXH := Lib.hid hr1
      have HSH := Lib.hid hs1
      clear hr1 hs1 hb1
      refine takeC (i := 6) (some 23) 13 #[.agg (loC ⟨l.s, l.nu, l.lv, A1, l.m, c1⟩), .agg (ajC ajD), .agg (heC ⟨h.s, h.nu, h.lv, h.ho, B1, h.m, d1, h.st, h.nm, h.th, h.tn⟩), .int .i64 now] (.tuple #[.agg (ajC R1.1), .int .i64 R1.2]) (R := fun w' => Below W8.heap.size W8 w') rfl rfl (by kernel_rfl) (by rfl) (by go_simp) (step_law l ajD h now L H L1 H1 A1 B1 c1 d1 _ HYL.out HYA1.out HYH.out HYT.out HXL.out HXH.out (by have := HML.out; omega) (by have := HMH.out; omega) HSL.out HSH.out R1 HR1.out) (fun w' hb => ⟨hS.1.below hb hS.1.lt, hS.2.1.below hb hS.2.1.lt, hS.2.2.trans (hb.mono hS.2.2.size)⟩) ?_
      intro W9 hb1 hS2
      simp only [Act.put, List.setIfInBounds_toArray, List.set_cons_zero, List.set_cons_succ]
      have HXLn := Lib.hid (HXL.out.below hb1)
      clear HXL
      have HXL := HXLn
      clear HXLn
      have HXHn := Lib.hid (HXH.out.below hb1)
      clear HXH
      have HXH := HXHn
      clear HXHn
      have K4n := Lib.hid (K4.out.below hb1 K4.out.lt)
      clear K4
      have K4 := K4n
      clear K4n
      clear K1
      clear K3
      clear HB
      clear hS
      have hS := hS2
      clear hS2
      have K1 := Lib.hid hS.1
      have K3 := Lib.hid hS.2.1
      have HB := Lib.hid hS.2.2
      clear HXL HXH HSL HSH
      clear hb1
      refine takeY (i := 7) (some 16) (v := .tuple #[.agg (ajC R1.1), .int .i64 R1.2]) rfl rfl (by kernel_rfl) (by kernel_rfl) (by kernel_rfl) (fun _ _ _ h => h) (by rfl) (fun w' hS => by go_simp) hS ?_
      simp only [Act.put, List.setIfInBounds_toArray, List.set_cons_zero, List.set_cons_succ]
      refine takeY (i := 8) (some 24) (v := .agg (ajC R1.1)) rfl rfl (by kernel_rfl) (by kernel_rfl) (by kernel_rfl) (fun _ _ _ h => h) (by rfl) (fun w' hS => by go_simp) hS ?_
      simp only [Act.put, List.setIfInBounds_toArray, List.set_cons_zero, List.set_cons_succ]
      refine takeY (i := 9) (some 25) (v := .int .i64 R1.2) rfl rfl (by kernel_rfl) (by kernel_rfl) (by kernel_rfl) (fun _ _ _ h => h) (by rfl) (fun w' hS => by go_simp) hS ?_
      simp only [Act.put, List.setIfInBounds_toArray, List.set_cons_zero, List.set_cons_succ]
      refine takeSt (i := 11) 36 (.tmp 7) (.tmp 24) M0 0 (.agg (ajC R1.1)) (ajC R1.1) (ajC R1.1) rfl rfl (by kernel_rfl) (by rfl) rfl rfl rfl rfl info_ajP (ajC_one _) K4.out (Nat.le_of_ble_eq_true rfl) (by kernel_rfl) ?_
      intro W10 q1
      refine ⟨⟨K1.out.far q1 (by omega), K3.out.far q1 (by omega), HB.out.trans (q1.2.1 _ (by omega))⟩, ?_⟩
      simp only [Act.put, List.setIfInBounds_toArray, List.set_cons_zero, List.set_cons_succ]
      have K4n : Hid (Blk 36 W10 M0 (ajC R1.1)) := Lib.hid q1.1
      clear K4
      have K4 := K4n
      clear K4n
      have K1n := Lib.hid (K1.out.far q1 (by omega))
      clear K1
      have K1 := K1n
      clear K1n
      have K3n := Lib.hid (K3.out.far q1 (by omega))
      clear K3
      have K3 := K3n
      clear K3n
      have HBn := Lib.hid (HB.out.trans (q1.2.1 _ (by omega)))
      clear HB
      have HB := HBn
      clear HBn
      clear q1 hS
      have hS := (And.intro K1.out (And.intro K3.out HB.out))
      refine takeY (i := 12) (some 8) (v := .int .i64 R1.2) rfl rfl (by kernel_rfl) (by kernel_rfl) (by kernel_rfl) (fun _ _ _ h => h) (by rfl) (fun w' hS => by go_simp) hS ?_
      simp only [Act.put, List.setIfInBounds_toArray, List.set_cons_zero, List.set_cons_succ]
      clear hS
      refine wpAnyH_done (by kernel_rfl) ?_ _
      go_wp2_with fail
      go_meet
      case rel => exact ⟨M0, rfl, rfl, K4, lt_N1_M0, K1, lt_N2_M0, K3, le_HB_M0, HB⟩
  case rest =>
  clear K1
  clear K3
  clear HB
  obtain ⟨NK4, rfl, rfl, K4, lt_N1_NK4, K1, lt_N2_NK4, K3, le_HB_NK4, HB⟩ := hcut
  obtain ⟨E, hE⟩ : ∃ E, R1.2 = E := ⟨_, rfl⟩
  have HLW := HLV.out
  rw [hE] at HLW ⊢
  have HLX := Lib.hid HLW
  clear hE HLV HLW
  have c4 : wc.cell? ⟨NK4, 0, none⟩ = some (.int .i64 R1.1.st) := (K4.out.cell 0).trans rfl
  by_cases he : E ≠ 0
  · skip
    have hR : R1.1 = ajD := HLX.out.1 (.inl he)
    have heb : (E != 0) = true := by simpa using he
    clear he HLX
    have hR2 := Lib.hid hR
    rw [hR] at K4
    go_wp2_with (refine wpList_ld (op := ⟨some 33, _, _, _, _, _⟩) (by rfl) 36 (.tmp 7) rfl NK4 0 rfl (ajC ajD) _ K4.out.all Try.underlying36 rfl info_ajP ?_; refine Hid.out ?_)
    refine Lib.hid ?_
    go_wp2_with (refine wpList_c (op := ⟨some 34, _, _, _, _, _⟩) (.agg (ajC ajD)) (by rfl) (fun W => by kernel_rfl) ?_; refine Hid.out ?_)
    refine Lib.hid ?_
    go_wp2_with (refine wpList_gv (op := ⟨some 35, _, _, _, _, _⟩) _ (by rfl) (eql_self _ _ _ _ _ _ rfl rfl guard_ajP _ HSD.out rfl rfl _) ?_; refine Hid.out ?_)
    refine Lib.hid ?_
    go_wp2_with fail
    go_ret
    exact ⟨rfl, HB.out⟩
  obtain rfl : E = 0 := by omega
  by_cases hd : R1.1.st = 2
  · skip
    have hR : R1.1 = ajD := HLX.out.1 (.inr hd)
    have hdb : (R1.1.st == 2) = true := by simpa using hd
    clear hd HLX
    rw [hR] at K4
    go_wp2_with (refine wpList_ld (op := ⟨some 33, _, _, _, _, _⟩) (by rfl) 36 (.tmp 7) rfl NK4 0 rfl (ajC ajD) _ K4.out.all Try.underlying36 rfl info_ajP ?_; refine Hid.out ?_)
    refine Lib.hid ?_
    go_wp2_with (refine wpList_c (op := ⟨some 34, _, _, _, _, _⟩) (.agg (ajC ajD)) (by rfl) (fun W => by kernel_rfl) ?_; refine Hid.out ?_)
    refine Lib.hid ?_
    go_wp2_with (refine wpList_gv (op := ⟨some 35, _, _, _, _, _⟩) _ (by rfl) (eql_self _ _ _ _ _ _ rfl rfl guard_ajP _ HSD.out rfl rfl _) ?_; refine Hid.out ?_)
    refine Lib.hid ?_
    go_wp2_with fail
    go_ret
    exact ⟨rfl, HB.out⟩
  have hdb : (R1.1.st == 2) = false := by simpa using hd
  obtain ⟨y1, y2, y3, y4, y5, y6⟩ := HLX.out.2 rfl hd
  have HY1 := Lib.hid y1
  have HY2 := Lib.hid y2
  have HY3 := Lib.hid y3
  have HY4 := Lib.hid y4
  clear y1 y2 y3 y4 hd HLX he
  have HL := Lib.hid (HRL.out.below HB.out)
  have HH := Lib.hid (HRH.out.below HB.out)
  have c5 : wc.cell? ⟨N1, 8, none⟩ = some (.slice l.A l.m l.c) := (K1.out.cell 8).trans rfl
  go_wp2_with fail
  clear c4 c5 hdb
  obtain ⟨lm, hlm⟩ : ∃ n, l.m = n := ⟨_, rfl⟩
  obtain ⟨hm, hhm⟩ : ∃ n, h.m = n := ⟨_, rfl⟩
  have HLM := Lib.hid hlm
  have HHM := Lib.hid hhm
  rw [hlm] at HL hmlb ⊢
  rw [hhm] at HH hmhb
  clear hlm hhm
  go_loopw [9, 39] (fun c t wr => ∃ (i r : Nat) (b : Bool), i ≤ lm ∧ t = .int .i64 i ∧ c = .bool b ∧ Hid (b = true ↔ Shr L i H hm) ∧ Hid (wr = wc.drewN r)) (fun _ t _ => lm - (intOf t).toNat)
  case atStart => exact ⟨0, 0, false, by omega, rfl, rfl, Lib.hid ⟨fun h => (by cases h), fun ⟨i, hi, _⟩ => (by omega)⟩, Lib.hid rfl⟩
  case round =>
    obtain ⟨wo, rfl⟩ : ∃ wo, wo = wr := ⟨_, rfl⟩
    obtain ⟨i, r, b, hi, rfl, rfl, hb, hw⟩ := hrel
    have KK3 : Blk 30 wo N2 (heC h) := by rw [hw.out]; exact K3.out
    have c6 : wo.cell? ⟨N2, 9, none⟩ = some (.slice h.A hm h.c) := by
      have := (KK3.cell 9).trans rfl
      rw [← HHM.out]; exact this
    have HL2 : Hid (RdS wo l.A lm L) := Lib.hid (by rw [hw.out]; exact HL.out)
    have HH2 : Hid (RdS wo h.A hm H) := Lib.hid (by rw [hw.out]; exact HH.out)
    clear KK3
    by_cases hlt : i < lm
    · obtain ⟨b0, off, hA, hr⟩ := HL2.out.row (by omega)
      obtain ⟨c0, o0⟩ := hr.2 i hlt
      have HO0 := Lib.hid o0
      have HA := Lib.hid hA
      rw [HA.out]
      clear hr o0 hA
      go_wp2_with fail
      clear c0 c6
      go_loopw [9, 46] (fun c t ws => ∃ (j q : Nat) (b : Bool), j ≤ hm ∧ t = .int .i64 j ∧ c = .bool b ∧ Hid (b = true ↔ Shr L i H hm ∨ ∃ j', j' < j ∧ sameS (L i) (H j')) ∧ Hid (ws = wo.drewN q)) (fun _ t _ => hm - (intOf t).toNat)
      case atStart => exact ⟨0, 0, b, by omega, rfl, rfl, Lib.hid ⟨fun h => .inl (hb.out.1 h), fun h => by
        rcases h with h | ⟨_, h, _⟩
        · exact hb.out.2 h
        · omega⟩, Lib.hid rfl⟩
      case round =>
        obtain ⟨j, q, d, hj, rfl, rfl, hd, hws⟩ := hrel
        by_cases hlj : j < hm
        · obtain ⟨b1, off1, hB, hr1⟩ := HH2.out.row (by omega)
          obtain ⟨c1, o1⟩ := hr1.2 j hlj
          have c1' : wr.cell? ⟨b1, off1 + j, none⟩ = some (.slice (H j).A (H j).n (H j).c) := by rw [hws.out]; exact c1
          have HO1 : Hid (SlOk wr (H j)) := Lib.hid (by rw [hws.out]; exact o1)
          have HO2 : Hid (SlOk wr (L i)) := Lib.hid (by rw [hws.out]; exact HO0.out)
          have HBB := Lib.hid hB
          rw [HBB.out]
          clear hr1 o1 hB c1
          cases d
          · by_cases hs : sameS (L i) (H j)
            · have HSM := Lib.hid (same_yes (L i).A (H j).A (L i).n (L i).c (H j).c (L i).z (H j).z wr HO2.out.1 (by rw [hs.1]; exact HO1.out.1) hs.2 (by have := HO2.out.2.2; omega))
              rw [hs.1] at HSM
              have HE := Lib.hid (Eq.trans rfl hs.1 : (L i).n = (H j).n)
              have hd2 : Hid (true = true ↔ Shr L i H hm ∨ ∃ j', j' < j + 1 ∧ sameS (L i) (H j')) := Lib.hid ⟨fun _ => .inr ⟨j, by omega, hs⟩, fun _ => rfl⟩
              have hln : (L i).n = (H j).n := HE.out
              clear hs
              rw [hln]
              have HLN := Lib.hid hln
              clear hln HE
              go_wp2_with fail
              refine HSM.out.mono ?_
              rintro e ws2 ⟨rfl, m2, hw2⟩
              have HW2 := Lib.hid hw2
              clear hw2
              go_wp2_with fail
              go_roundw
              case rel => exact ⟨j + 1, q + m2, true, by omega, by go_num, rfl, Lib.hid ⟨fun _ => hd2.out.1 (by trivial), fun _ => rfl⟩, Lib.hid (by rw [HW2.out, hws.out, World.drewN_drewN])⟩
              case measure => simp [intOf]; omega
            · have HSM := Lib.hid (same_no (L i).A (H j).A (L i).n (H j).n (L i).c (H j).c (L i).z (H j).z wr HO2.out.1 HO1.out.1 hs (by have := HO2.out.2.2; omega) (by have := HO1.out.2.2; omega))
              have hd2 : Hid (false = true ↔ Shr L i H hm ∨ ∃ j', j' < j + 1 ∧ sameS (L i) (H j')) := Lib.hid ⟨fun h => (by cases h), fun h => by
                rcases h with h | ⟨j', h1, h2⟩
                · exact hd.out.2 (.inl h)
                · by_cases e : j' = j
                  · subst e; exact absurd h2 hs
                  · exact hd.out.2 (.inr ⟨j', by omega, h2⟩)⟩
              clear hs
              go_wp2_with fail
              refine HSM.out.mono ?_
              rintro e ws2 ⟨rfl, m2, hw2⟩
              have HW2 := Lib.hid hw2
              clear hw2
              go_wp2_with fail
              go_roundw
              case rel => exact ⟨j + 1, q + m2, false, by omega, by go_num, rfl, hd2, Lib.hid (by rw [HW2.out, hws.out, World.drewN_drewN])⟩
              case measure => simp [intOf]; omega
          · have hd2 : Hid (true = true ↔ Shr L i H hm ∨ ∃ j', j' < j + 1 ∧ sameS (L i) (H j')) := Lib.hid ⟨fun _ => by
              rcases hd.out.1 rfl with h | ⟨j', h1, h2⟩
              · exact .inl h
              · exact .inr ⟨j', by omega, h2⟩, fun _ => rfl⟩
            go_wp2_with fail
            go_roundw
            case rel => exact ⟨j + 1, q, true, by omega, by go_num, rfl, Lib.hid ⟨fun _ => hd2.out.1 (by trivial), fun _ => rfl⟩, hws⟩
            case measure => simp [intOf]; omega
        · obtain rfl : j = hm := by omega
          have hb2 : Hid (d = true ↔ Shr L (i + 1) H j) := Lib.hid ⟨fun h => by
            rcases hd.out.1 h with ⟨i', h1, h2⟩ | ⟨j', h1, h2⟩
            · exact ⟨i', by omega, h2⟩
            · exact ⟨i, by omega, j', h1, h2⟩, fun ⟨i', h1, j', h2, h3⟩ => by
            by_cases e : i' = i
            · subst e; exact hd.out.2 (.inr ⟨j', h2, h3⟩)
            · exact hd.out.2 (.inl ⟨i', by omega, j', h2, h3⟩)⟩
          go_wp2_with fail
          go_roundw
          case rel => exact ⟨i + 1, r + q, d, by omega, by go_num, rfl, hb2, Lib.hid (by rw [hws.out, hw.out, World.drewN_drewN])⟩
          case measure => simp [intOf]; omega
    · obtain rfl : i = lm := by omega
      have KA : Blk 36 wo NK4 (ajC R1.1) := by rw [hw.out]; exact K4.out
      have KB : Blk 26 wo N1 (loC l) := by rw [hw.out]; exact K1.out
      have KC : Blk 30 wo N2 (heC h) := by rw [hw.out]; exact K3.out
      have ca : wo.cell? ⟨NK4, 8, none⟩ = some (.int .i64 R1.1.lv) := (KA.cell 8).trans rfl
      have cb : wo.cell? ⟨N1, 7, none⟩ = some (.int .i64 l.lv) := (KB.cell 7).trans rfl
      have cc : wo.cell? ⟨N2, 7, none⟩ = some (.int .i64 h.lv) := (KC.cell 7).trans rfl
      have HBF : Hid (Below w.heap.size w wo) := Lib.hid (by rw [hw.out]; exact bdrewN HB.out r)
      have hbs : b = shB L l.m H h.m := by
        rw [HLM.out, HHM.out]
        by_cases hs : Shr L i H hm
        · rw [shB_yes hs]; exact hb.out.2 hs
        · rw [shB_no hs]
          cases b
          · rfl
          · exact absurd (hb.out.1 rfl) hs
      have h3 := HY3.out
      have h4 := HY4.out
      rw [← hbs] at h3 h4
      have h1 := HY1.out
      have h2 := HY2.out
      obtain ⟨x, hx⟩ : ∃ x, l.lv = x := ⟨_, rfl⟩
      obtain ⟨y, hy⟩ : ∃ x, h.lv = x := ⟨_, rfl⟩
      rw [hx] at cb h1 h3 h4
      rw [hy] at cc h2 h3 h4
      rw [h3] at ca
      clear KA KB KC hx hy hbs h3 c6 hw hb HY1 HY2 HY3 HY4
      rcases h1 with rfl | rfl | rfl <;> rcases h2 with rfl | rfl | rfl <;> cases b <;> first | (exact absurd rfl h4) | skip
      all_goals
        clear h4
        simp only [comI] at ca
        go_wp2_with fail
        go_ret
        exact ⟨rfl, HBF.out⟩
end Go.Proofs.Ythmnbhmficdifaa
