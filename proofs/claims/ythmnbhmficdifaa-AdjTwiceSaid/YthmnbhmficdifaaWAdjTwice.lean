/- The walk of AdjTwice: for every input the law returns true, and nothing that was there is written. No condition. -/
import Derived.Test.YthmnbhmficdifaaAThm
import Derived.Deep.DeepCutAuto
namespace Go.Proofs.Ythmnbhmficdifaa
open Go.RowKit
set_option linter.unusedVariables false

set_option maxHeartbeats 8000000 in
set_option maxRecDepth 100000 in
theorem walkAdjTwice (l : Lo) (L : Nat → Sl) (a : Aj) (h : He) (H : Nat → Sl) (now : Int) (w : World) (w0 : InLo w l L) (w1 : InAj a) (w2 : InHe w h H) (w3 : (Lit.int .i64 now).wf = true) :
    Calls Try.prog 7 #[.agg (loC l), .agg (ajC a), .agg (heC h), .int .i64 now] w fun e w' => e = .returned (.bool true) ∧ Below w.heap.size w w' := by
  obtain ⟨⟨hyl, _, _⟩, hrl, _, hml1, hml2⟩ := w0
  obtain ⟨_, hya, _⟩ := w1
  obtain ⟨⟨hyh, _, _, _, _, hyt, _⟩, hrh, _, hmh1, hmh2⟩ := w2
  have HRL := Lib.hid hrl
  have HRH := Lib.hid hrh
  have HML : Hid (l.m * 24 ≤ 140737488351232) := Lib.hid (by omega)
  have HMH : Hid (h.m * 24 ≤ 140737488351232) := Lib.hid (by omega)
  obtain ⟨R1, hR1⟩ : ∃ R, stepR l a h now (shB L l.m H h.m) = R := ⟨_, rfl⟩
  obtain ⟨R2, hR2⟩ : ∃ R, stepR l R1.1 h now (shB L l.m H h.m) = R := ⟨_, rfl⟩
  obtain ⟨R3, hR3⟩ : ∃ R, stepR l R2.1 h now (shB L l.m H h.m) = R := ⟨_, rfl⟩
  have HTW := Lib.hid (step_twice l a h now _ hyh R1 hR1)
  have HYL := Lib.hid hyl
  have HYA1 := Lib.hid hya
  have HYH := Lib.hid hyh
  have HYT := Lib.hid hyt
  have HYA2 : Hid (byB R1.1.p) := Lib.hid (by rw [← hR1]; exact stepR_by hya hyh)
  have HYA3 : Hid (byB R2.1.p) := Lib.hid (by rw [← hR2]; exact stepR_by HYA2.out hyh)
  have HYA4 : Hid (byB R3.1.p) := Lib.hid (by rw [← hR3]; exact stepR_by HYA3.out hyh)
  have HR1 := Lib.hid hR1
  have HR2 := Lib.hid hR2
  have HR3 := Lib.hid hR3
  clear hrl hrh hml1 hml2 hmh1 hmh2 hyl hya hyh hyt hR1 hR2 hR3 w3
  go_enter Try.func7, Try.ntmps7
  have HB := Lib.hid (Below.refl w.heap.size w)
  obtain ⟨N1, hN1⟩ : ∃ N, w.heap.size = N := ⟨_, rfl⟩
  have HN1 := Lib.hid hN1
  clear hN1
  go_wp2_with (refine wpList_box (op := ⟨some 4, _, _, _, _, _⟩) rfl 26 (.tmp 0) rfl (loC l) rfl N1 HN1.out ?_; intro w1 k1 b1 s1; refine Hid.out ?_)
  refine Lib.hid ?_
  have K1 := Lib.hid k1
  clear k1
  have le_HB_N1 : w.heap.size ≤ N1 := by rw [← HN1.out]; exact HB.out.size
  have HBn := Lib.hid (HB.out.trans (b1.mono HB.out.size))
  clear HB
  have HB := HBn
  clear HBn
  clear b1 HN1
  obtain ⟨N2, hN2⟩ : ∃ N, w1.heap.size = N := ⟨_, rfl⟩
  have HN2 := Lib.hid hN2
  clear hN2
  go_wp2_with (refine wpList_box (op := ⟨some 5, _, _, _, _, _⟩) rfl 28 (.tmp 1) rfl (ajC a) rfl N2 HN2.out ?_; intro w2 k1 b1 s1; refine Hid.out ?_)
  refine Lib.hid ?_
  have K2 := Lib.hid k1
  clear k1
  have lt_N1_N2 : N1 < N2 := by rw [← HN2.out]; exact K1.out.lt
  have le_HB_N2 : w.heap.size ≤ N2 := by rw [← HN2.out]; exact HB.out.size
  have K1n := Lib.hid (K1.out.below b1 K1.out.lt)
  clear K1
  have K1 := K1n
  clear K1n
  have HBn := Lib.hid (HB.out.trans (b1.mono HB.out.size))
  clear HB
  have HB := HBn
  clear HBn
  clear b1 HN2
  obtain ⟨N3, hN3⟩ : ∃ N, w2.heap.size = N := ⟨_, rfl⟩
  have HN3 := Lib.hid hN3
  clear hN3
  go_wp2_with (refine wpList_box (op := ⟨some 6, _, _, _, _, _⟩) rfl 30 (.tmp 2) rfl (heC h) rfl N3 HN3.out ?_; intro w3 k1 b1 s1; refine Hid.out ?_)
  refine Lib.hid ?_
  have K3 := Lib.hid k1
  clear k1
  have lt_N1_N3 : N1 < N3 := by rw [← HN3.out]; exact K1.out.lt
  have lt_N2_N3 : N2 < N3 := by rw [← HN3.out]; exact K2.out.lt
  have le_HB_N3 : w.heap.size ≤ N3 := by rw [← HN3.out]; exact HB.out.size
  have K1n := Lib.hid (K1.out.below b1 K1.out.lt)
  clear K1
  have K1 := K1n
  clear K1n
  have K2n := Lib.hid (K2.out.below b1 K2.out.lt)
  clear K2
  have K2 := K2n
  clear K2n
  have HBn := Lib.hid (HB.out.trans (b1.mono HB.out.size))
  clear HB
  have HB := HBn
  clear HBn
  clear b1 HN3
  go_wp2_with fail
  refine (awake_any _).mono ?_
  rintro e w4 ⟨rfl, b1⟩
  have K1n := Lib.hid (K1.out.below b1 K1.out.lt)
  clear K1
  have K1 := K1n
  clear K1n
  have K2n := Lib.hid (K2.out.below b1 K2.out.lt)
  clear K2
  have K2 := K2n
  clear K2n
  have K3n := Lib.hid (K3.out.below b1 K3.out.lt)
  clear K3
  have K3 := K3n
  clear K3n
  have HBn := Lib.hid (HB.out.trans (b1.mono HB.out.size))
  clear HB
  have HB := HBn
  clear HBn
  clear b1
  go_wp2_with fail
  go_cut [9, 10] (fun s1 s2 wc => ∃ N, s1 = .pointer (some ⟨N, 0, none⟩) ∧ s2 = .int .i64 R1.2 ∧ Hid (Blk 36 wc N (ajC R1.1)) ∧ N1 < N ∧ Hid (Blk 26 wc N1 (loC l)) ∧ N2 < N ∧ Hid (Blk 28 wc N2 (ajC a)) ∧ N3 < N ∧ Hid (Blk 30 wc N3 (heC h)) ∧ w.heap.size ≤ N ∧ Hid (Below w.heap.size w wc))
  case first =>
    refine wp_region_held_drew (S := fun w' => Blk 26 w' N1 (loC l) ∧ Blk 28 w' N2 (ajC a) ∧ Blk 30 w' N3 (heC h) ∧ Below w.heap.size w w') (by kernel_rfl) ⟨K1.out, K2.out, K3.out, HB.out.drew⟩ (fun hS => ?_)
    generalize hW5 : w4.drew = W5 at hS ⊢
    clear hW5
    clear K1
    clear K2
    clear K3
    clear HB
    have K1 := Lib.hid hS.1
    have K2 := Lib.hid hS.2.1
    have K3 := Lib.hid hS.2.2.1
    have HB := Lib.hid hS.2.2.2
    refine takeL (i := 0) (some 18) 26 (.tmp 4) N1 0 (loC l) _ rfl rfl (by kernel_rfl) (by kernel_rfl) (by kernel_rfl) (fun _ _ _ h => h) (by rfl) rfl rfl (fun w' hS => hS.1.all) Try.underlying26 rfl info_loR hS ?_
    simp only [Act.put, List.setIfInBounds_toArray, List.set_cons_zero, List.set_cons_succ]
    refine takeL (i := 2) (some 20) 28 (.tmp 5) N2 0 (ajC a) _ rfl rfl (by kernel_rfl) (by kernel_rfl) (by kernel_rfl) (fun _ _ _ h => h) (by rfl) rfl rfl (fun w' hS => hS.2.1.all) Try.underlying28 rfl info_ajR hS ?_
    simp only [Act.put, List.setIfInBounds_toArray, List.set_cons_zero, List.set_cons_succ]
    refine takeL (i := 3) (some 21) 30 (.tmp 6) N3 0 (heC h) _ rfl rfl (by kernel_rfl) (by kernel_rfl) (by kernel_rfl) (fun _ _ _ h => h) (by rfl) rfl rfl (fun w' hS => hS.2.2.1.all) Try.underlying30 rfl info_heR hS ?_
    simp only [Act.put, List.setIfInBounds_toArray, List.set_cons_zero, List.set_cons_succ]
    refine takeY (i := 5) (some 23) (v := .int .i64 now) rfl rfl (by kernel_rfl) (by kernel_rfl) (by kernel_rfl) (fun _ _ _ h => h) (by rfl) (fun w' hS => by go_simp) hS ?_
    simp only [Act.put, List.setIfInBounds_toArray, List.set_cons_zero, List.set_cons_succ]
    obtain ⟨M0, hM0⟩ : ∃ N, W5.heap.size = N := ⟨_, rfl⟩
    have HM0 := Lib.hid hM0
    clear hM0
    refine wpAnyH_ready (show Region.ready _ _ _ = [1, 10] from by kernel_rfl) (by simp) (consCE (i := 1) (some 19) 11 #[.agg (loC l)] (R := fun v w' => LocV W5 l L v w') rfl rfl (by rfl) (by go_simp) (local_v l L W5 (HRL.out.below HB.out) HML.out) (fun v w' h => by obtain ⟨A1, c1, L1, rfl, hr1, hs1, hb1⟩ := h; exact ⟨hS.1.below hb1 hS.1.lt, hS.2.1.below hb1 hS.2.1.lt, hS.2.2.1.below hb1 hS.2.2.1.lt, hS.2.2.2.trans (hb1.mono hS.2.2.2.size)⟩) ?_ (consMk (i := 10) (some 9) 36 (ajC aj0) rfl rfl (by rfl) rfl zero_ajP M0 HM0.out ?_ AllReadyH.nil))
    · skip
      clear HM0
      intro v W6 h hS2
      obtain ⟨A1, c1, L1, rfl, hr1, hs1, hb1⟩ := h
      simp only [Act.put, List.setIfInBounds_toArray, List.set_cons_zero, List.set_cons_succ]
      clear K1
      clear K2
      clear K3
      clear HB
      clear hS
      have hS := hS2
      clear hS2
      have K1 := Lib.hid hS.1
      have K2 := Lib.hid hS.2.1
      have K3 := Lib.hid hS.2.2.1
      have HB := Lib.hid hS.2.2.2
      have HXL := Lib.hid hr1
      have HSL := Lib.hid hs1
      clear hr1 hs1 hb1
      obtain ⟨M1, hM1⟩ : ∃ N, W6.heap.size = N := ⟨_, rfl⟩
      have HM1 := Lib.hid hM1
      clear hM1
      refine wpAnyH_ready (show Region.ready _ _ _ = [4, 10] from by kernel_rfl) (by simp) (consCE (i := 4) (some 22) 12 #[.agg (heC h)] (R := fun v w' => HelV W6 h H v w') rfl rfl (by rfl) (by go_simp) (hello_v h H W6 (HRH.out.below HB.out) HMH.out) (fun v w' h => by obtain ⟨B1, d1, H1, rfl, hr1, hs1, hb1⟩ := h; exact ⟨hS.1.below hb1 hS.1.lt, hS.2.1.below hb1 hS.2.1.lt, hS.2.2.1.below hb1 hS.2.2.1.lt, hS.2.2.2.trans (hb1.mono hS.2.2.2.size)⟩) ?_ (consMk (i := 10) (some 9) 36 (ajC aj0) rfl rfl (by rfl) rfl zero_ajP M1 HM1.out ?_ AllReadyH.nil))
      · skip
        clear HM1
        intro v W7 h hS2
        obtain ⟨B1, d1, H1, rfl, hr1, hs1, hb1⟩ := h
        simp only [Act.put, List.setIfInBounds_toArray, List.set_cons_zero, List.set_cons_succ]
        have HXLn := Lib.hid (HXL.out.below hb1)
        clear HXL
        have HXL := HXLn
        clear HXLn
        clear K1
        clear K2
        clear K3
        clear HB
        clear hS
        have hS := hS2
        clear hS2
        have K1 := Lib.hid hS.1
        have K2 := Lib.hid hS.2.1
        have K3 := Lib.hid hS.2.2.1
        have HB := Lib.hid hS.2.2.2
        have HXH := Lib.hid hr1
        have HSH := Lib.hid hs1
        clear hr1 hs1 hb1
        obtain ⟨M2, hM2⟩ : ∃ N, W7.heap.size = N := ⟨_, rfl⟩
        have HM2 := Lib.hid hM2
        clear hM2
        refine wpAnyH_ready (show Region.ready _ _ _ = [6, 10] from by kernel_rfl) (by simp) (consC (i := 6) (some 24) 13 #[.agg (loC ⟨l.s, l.nu, l.lv, A1, l.m, c1⟩), .agg (ajC a), .agg (heC ⟨h.s, h.nu, h.lv, h.ho, B1, h.m, d1, h.st, h.nm, h.th, h.tn⟩), .int .i64 now] (.tuple #[.agg (ajC R1.1), .int .i64 R1.2]) (R := fun w' => Below W7.heap.size W7 w') rfl rfl (by rfl) (by go_simp) (step_law l a h now L H L1 H1 A1 B1 c1 d1 _ HYL.out HYA1.out HYH.out HYT.out HXL.out HXH.out (by have := HML.out; omega) (by have := HMH.out; omega) HSL.out HSH.out R1 HR1.out) (fun w' hb => ⟨hS.1.below hb hS.1.lt, hS.2.1.below hb hS.2.1.lt, hS.2.2.1.below hb hS.2.2.1.lt, hS.2.2.2.trans (hb.mono hS.2.2.2.size)⟩) ?_ (consMk (i := 10) (some 9) 36 (ajC aj0) rfl rfl (by rfl) rfl zero_ajP M2 HM2.out ?_ AllReadyH.nil))
        · skip
          clear HM2
          intro W8 hb1 hS2
          simp only [Act.put, List.setIfInBounds_toArray, List.set_cons_zero, List.set_cons_succ]
          have HXLn := Lib.hid (HXL.out.below hb1)
          clear HXL
          have HXL := HXLn
          clear HXLn
          have HXHn := Lib.hid (HXH.out.below hb1)
          clear HXH
          have HXH := HXHn
          clear HXHn
          clear K1
          clear K2
          clear K3
          clear HB
          clear hS
          have hS := hS2
          clear hS2
          have K1 := Lib.hid hS.1
          have K2 := Lib.hid hS.2.1
          have K3 := Lib.hid hS.2.2.1
          have HB := Lib.hid hS.2.2.2
          clear HXL HXH HSL HSH
          clear hb1
          obtain ⟨M3, hM3⟩ : ∃ N, W8.heap.size = N := ⟨_, rfl⟩
          have HM3 := Lib.hid hM3
          clear hM3
          refine takeY (i := 7) (some 17) (v := .tuple #[.agg (ajC R1.1), .int .i64 R1.2]) rfl rfl (by kernel_rfl) (by kernel_rfl) (by kernel_rfl) (fun _ _ _ h => h) (by rfl) (fun w' hS => by go_simp) hS ?_
          simp only [Act.put, List.setIfInBounds_toArray, List.set_cons_zero, List.set_cons_succ]
          refine takeY (i := 8) (some 25) (v := .agg (ajC R1.1)) rfl rfl (by kernel_rfl) (by kernel_rfl) (by kernel_rfl) (fun _ _ _ h => h) (by rfl) (fun w' hS => by go_simp) hS ?_
          simp only [Act.put, List.setIfInBounds_toArray, List.set_cons_zero, List.set_cons_succ]
          refine takeY (i := 9) (some 26) (v := .int .i64 R1.2) rfl rfl (by kernel_rfl) (by kernel_rfl) (by kernel_rfl) (fun _ _ _ h => h) (by rfl) (fun w' hS => by go_simp) hS ?_
          simp only [Act.put, List.setIfInBounds_toArray, List.set_cons_zero, List.set_cons_succ]
          refine takeMk (i := 10) (some 9) 36 (ajC aj0) rfl rfl (by kernel_rfl) (by rfl) rfl zero_ajP M3 HM3.out ?_
          intro W9 k1 b1 s1
          refine ⟨⟨hS.1.below b1 hS.1.lt, hS.2.1.below b1 hS.2.1.lt, hS.2.2.1.below b1 hS.2.2.1.lt, hS.2.2.2.trans (b1.mono hS.2.2.2.size)⟩, ?_⟩
          simp only [Act.put, List.setIfInBounds_toArray, List.set_cons_zero, List.set_cons_succ]
          have K4 := Lib.hid k1
          clear k1
          have lt_N1_M3 : N1 < M3 := by rw [← HM3.out]; exact K1.out.lt
          have lt_N2_M3 : N2 < M3 := by rw [← HM3.out]; exact K2.out.lt
          have lt_N3_M3 : N3 < M3 := by rw [← HM3.out]; exact K3.out.lt
          have le_HB_M3 : w.heap.size ≤ M3 := by rw [← HM3.out]; exact HB.out.size
          have K1n := Lib.hid (K1.out.below b1 K1.out.lt)
          clear K1
          have K1 := K1n
          clear K1n
          have K2n := Lib.hid (K2.out.below b1 K2.out.lt)
          clear K2
          have K2 := K2n
          clear K2n
          have K3n := Lib.hid (K3.out.below b1 K3.out.lt)
          clear K3
          have K3 := K3n
          clear K3n
          have HBn := Lib.hid (HB.out.trans (b1.mono HB.out.size))
          clear HB
          have HB := HBn
          clear HBn
          clear b1 HM3 hS
          have hS := (And.intro K1.out (And.intro K2.out (And.intro K3.out HB.out)))
          refine takeSt (i := 11) 36 (.tmp 9) (.tmp 25) M3 0 (.agg (ajC R1.1)) (ajC R1.1) (ajC R1.1) rfl rfl (by kernel_rfl) (by rfl) rfl rfl rfl rfl info_ajP (ajC_one _) K4.out (Nat.le_of_ble_eq_true rfl) (by kernel_rfl) ?_
          intro W10 q1
          refine ⟨⟨K1.out.far q1 (by omega), K2.out.far q1 (by omega), K3.out.far q1 (by omega), HB.out.trans (q1.2.1 _ (by omega))⟩, ?_⟩
          simp only [Act.put, List.setIfInBounds_toArray, List.set_cons_zero, List.set_cons_succ]
          have K4n : Hid (Blk 36 W10 M3 (ajC R1.1)) := Lib.hid q1.1
          clear K4
          have K4 := K4n
          clear K4n
          have K1n := Lib.hid (K1.out.far q1 (by omega))
          clear K1
          have K1 := K1n
          clear K1n
          have K2n := Lib.hid (K2.out.far q1 (by omega))
          clear K2
          have K2 := K2n
          clear K2n
          have K3n := Lib.hid (K3.out.far q1 (by omega))
          clear K3
          have K3 := K3n
          clear K3n
          have HBn := Lib.hid (HB.out.trans (q1.2.1 _ (by omega)))
          clear HB
          have HB := HBn
          clear HBn
          clear q1 hS
          have hS := (And.intro K1.out (And.intro K2.out (And.intro K3.out HB.out)))
          refine takeY (i := 12) (some 10) (v := .int .i64 R1.2) rfl rfl (by kernel_rfl) (by kernel_rfl) (by kernel_rfl) (fun _ _ _ h => h) (by rfl) (fun w' hS => by go_simp) hS ?_
          simp only [Act.put, List.setIfInBounds_toArray, List.set_cons_zero, List.set_cons_succ]
          clear hS
          refine wpAnyH_done (by kernel_rfl) ?_ _
          go_wp2_with fail
          go_meet
          case rel => exact ⟨M3, rfl, rfl, K4, lt_N1_M3, K1, lt_N2_M3, K2, lt_N3_M3, K3, le_HB_M3, HB⟩
        · skip
          intro W9 k1 b1 s1
          refine ⟨⟨hS.1.below b1 hS.1.lt, hS.2.1.below b1 hS.2.1.lt, hS.2.2.1.below b1 hS.2.2.1.lt, hS.2.2.2.trans (b1.mono hS.2.2.2.size)⟩, ?_⟩
          simp only [Act.put, List.setIfInBounds_toArray, List.set_cons_zero, List.set_cons_succ]
          have K4 := Lib.hid k1
          clear k1
          have lt_N1_M2 : N1 < M2 := by rw [← HM2.out]; exact K1.out.lt
          have lt_N2_M2 : N2 < M2 := by rw [← HM2.out]; exact K2.out.lt
          have lt_N3_M2 : N3 < M2 := by rw [← HM2.out]; exact K3.out.lt
          have le_HB_M2 : w.heap.size ≤ M2 := by rw [← HM2.out]; exact HB.out.size
          have HXLn := Lib.hid (HXL.out.below b1)
          clear HXL
          have HXL := HXLn
          clear HXLn
          have HXHn := Lib.hid (HXH.out.below b1)
          clear HXH
          have HXH := HXHn
          clear HXHn
          have K1n := Lib.hid (K1.out.below b1 K1.out.lt)
          clear K1
          have K1 := K1n
          clear K1n
          have K2n := Lib.hid (K2.out.below b1 K2.out.lt)
          clear K2
          have K2 := K2n
          clear K2n
          have K3n := Lib.hid (K3.out.below b1 K3.out.lt)
          clear K3
          have K3 := K3n
          clear K3n
          have HBn := Lib.hid (HB.out.trans (b1.mono HB.out.size))
          clear HB
          have HB := HBn
          clear HBn
          clear b1 HM2 hS
          have hS := (And.intro K1.out (And.intro K2.out (And.intro K3.out HB.out)))
          refine takeC (i := 6) (some 24) 13 #[.agg (loC ⟨l.s, l.nu, l.lv, A1, l.m, c1⟩), .agg (ajC a), .agg (heC ⟨h.s, h.nu, h.lv, h.ho, B1, h.m, d1, h.st, h.nm, h.th, h.tn⟩), .int .i64 now] (.tuple #[.agg (ajC R1.1), .int .i64 R1.2]) (R := fun w' => Below W9.heap.size W9 w') rfl rfl (by kernel_rfl) (by rfl) (by go_simp) (step_law l a h now L H L1 H1 A1 B1 c1 d1 _ HYL.out HYA1.out HYH.out HYT.out HXL.out HXH.out (by have := HML.out; omega) (by have := HMH.out; omega) HSL.out HSH.out R1 HR1.out) (fun w' hb => ⟨hS.1.below hb hS.1.lt, hS.2.1.below hb hS.2.1.lt, hS.2.2.1.below hb hS.2.2.1.lt, hS.2.2.2.trans (hb.mono hS.2.2.2.size)⟩) ?_
          intro W10 hb1 hS2
          simp only [Act.put, List.setIfInBounds_toArray, List.set_cons_zero, List.set_cons_succ]
          have HXLn := Lib.hid (HXL.out.below hb1)
          clear HXL
          have HXL := HXLn
          clear HXLn
          have HXHn := Lib.hid (HXH.out.below hb1)
          clear HXH
          have HXH := HXHn
          clear HXHn
          have K4n := Lib.hid (K4.out.below hb1 K4.out.lt)
          clear K4
          have K4 := K4n
          clear K4n
          clear K1
          clear K2
          clear K3
          clear HB
          clear hS
          have hS := hS2
          clear hS2
          have K1 := Lib.hid hS.1
          have K2 := Lib.hid hS.2.1
          have K3 := Lib.hid hS.2.2.1
          have HB := Lib.hid hS.2.2.2
          clear HXL HXH HSL HSH
          clear hb1
          refine takeY (i := 7) (some 17) (v := .tuple #[.agg (ajC R1.1), .int .i64 R1.2]) rfl rfl (by kernel_rfl) (by kernel_rfl) (by kernel_rfl) (fun _ _ _ h => h) (by rfl) (fun w' hS => by go_simp) hS ?_
          simp only [Act.put, List.setIfInBounds_toArray, List.set_cons_zero, List.set_cons_succ]
          refine takeY (i := 8) (some 25) (v := .agg (ajC R1.1)) rfl rfl (by kernel_rfl) (by kernel_rfl) (by kernel_rfl) (fun _ _ _ h => h) (by rfl) (fun w' hS => by go_simp) hS ?_
          simp only [Act.put, List.setIfInBounds_toArray, List.set_cons_zero, List.set_cons_succ]
          refine takeY (i := 9) (some 26) (v := .int .i64 R1.2) rfl rfl (by kernel_rfl) (by kernel_rfl) (by kernel_rfl) (fun _ _ _ h => h) (by rfl) (fun w' hS => by go_simp) hS ?_
          simp only [Act.put, List.setIfInBounds_toArray, List.set_cons_zero, List.set_cons_succ]
          refine takeSt (i := 11) 36 (.tmp 9) (.tmp 25) M2 0 (.agg (ajC R1.1)) (ajC R1.1) (ajC R1.1) rfl rfl (by kernel_rfl) (by rfl) rfl rfl rfl rfl info_ajP (ajC_one _) K4.out (Nat.le_of_ble_eq_true rfl) (by kernel_rfl) ?_
          intro W11 q1
          refine ⟨⟨K1.out.far q1 (by omega), K2.out.far q1 (by omega), K3.out.far q1 (by omega), HB.out.trans (q1.2.1 _ (by omega))⟩, ?_⟩
          simp only [Act.put, List.setIfInBounds_toArray, List.set_cons_zero, List.set_cons_succ]
          have K4n : Hid (Blk 36 W11 M2 (ajC R1.1)) := Lib.hid q1.1
          clear K4
          have K4 := K4n
          clear K4n
          have K1n := Lib.hid (K1.out.far q1 (by omega))
          clear K1
          have K1 := K1n
          clear K1n
          have K2n := Lib.hid (K2.out.far q1 (by omega))
          clear K2
          have K2 := K2n
          clear K2n
          have K3n := Lib.hid (K3.out.far q1 (by omega))
          clear K3
          have K3 := K3n
          clear K3n
          have HBn := Lib.hid (HB.out.trans (q1.2.1 _ (by omega)))
          clear HB
          have HB := HBn
          clear HBn
          clear q1 hS
          have hS := (And.intro K1.out (And.intro K2.out (And.intro K3.out HB.out)))
          refine takeY (i := 12) (some 10) (v := .int .i64 R1.2) rfl rfl (by kernel_rfl) (by kernel_rfl) (by kernel_rfl) (fun _ _ _ h => h) (by rfl) (fun w' hS => by go_simp) hS ?_
          simp only [Act.put, List.setIfInBounds_toArray, List.set_cons_zero, List.set_cons_succ]
          clear hS
          refine wpAnyH_done (by kernel_rfl) ?_ _
          go_wp2_with fail
          go_meet
          case rel => exact ⟨M2, rfl, rfl, K4, lt_N1_M2, K1, lt_N2_M2, K2, lt_N3_M2, K3, le_HB_M2, HB⟩
      · skip
        intro W8 k1 b1 s1
        refine ⟨⟨hS.1.below b1 hS.1.lt, hS.2.1.below b1 hS.2.1.lt, hS.2.2.1.below b1 hS.2.2.1.lt, hS.2.2.2.trans (b1.mono hS.2.2.2.size)⟩, ?_⟩
        simp only [Act.put, List.setIfInBounds_toArray, List.set_cons_zero, List.set_cons_succ]
        have K4 := Lib.hid k1
        clear k1
        have lt_N1_M1 : N1 < M1 := by rw [← HM1.out]; exact K1.out.lt
        have lt_N2_M1 : N2 < M1 := by rw [← HM1.out]; exact K2.out.lt
        have lt_N3_M1 : N3 < M1 := by rw [← HM1.out]; exact K3.out.lt
        have le_HB_M1 : w.heap.size ≤ M1 := by rw [← HM1.out]; exact HB.out.size
        have HXLn := Lib.hid (HXL.out.below b1)
        clear HXL
        have HXL := HXLn
        clear HXLn
        have K1n := Lib.hid (K1.out.below b1 K1.out.lt)
        clear K1
        have K1 := K1n
        clear K1n
        have K2n := Lib.hid (K2.out.below b1 K2.out.lt)
        clear K2
        have K2 := K2n
        clear K2n
        have K3n := Lib.hid (K3.out.below b1 K3.out.lt)
        clear K3
        have K3 := K3n
        clear K3n
        have HBn := Lib.hid (HB.out.trans (b1.mono HB.out.size))
        clear HB
        have HB := HBn
        clear HBn
        clear b1 HM1 hS
        have hS := (And.intro K1.out (And.intro K2.out (And.intro K3.out HB.out)))
        refine takeCE (i := 4) (some 22) 12 #[.agg (heC h)] (R := fun v w' => HelV W8 h H v w') rfl rfl (by kernel_rfl) (by rfl) (by go_simp) (hello_v h H W8 (HRH.out.below HB.out) HMH.out) (fun v w' h => by obtain ⟨B1, d1, H1, rfl, hr1, hs1, hb1⟩ := h; exact ⟨hS.1.below hb1 hS.1.lt, hS.2.1.below hb1 hS.2.1.lt, hS.2.2.1.below hb1 hS.2.2.1.lt, hS.2.2.2.trans (hb1.mono hS.2.2.2.size)⟩) ?_
        intro v W9 h hS2
        obtain ⟨B1, d1, H1, rfl, hr1, hs1, hb1⟩ := h
        simp only [Act.put, List.setIfInBounds_toArray, List.set_cons_zero, List.set_cons_succ]
        have HXLn := Lib.hid (HXL.out.below hb1)
        clear HXL
        have HXL := HXLn
        clear HXLn
        have K4n := Lib.hid (K4.out.below hb1 K4.out.lt)
        clear K4
        have K4 := K4n
        clear K4n
        clear K1
        clear K2
        clear K3
        clear HB
        clear hS
        have hS := hS2
        clear hS2
        have K1 := Lib.hid hS.1
        have K2 := Lib.hid hS.2.1
        have K3 := Lib.hid hS.2.2.1
        have HB := Lib.hid hS.2.2.2
        have HXH := Lib.hid hr1
        have HSH := Lib.hid hs1
        clear hr1 hs1 hb1
        refine takeC (i := 6) (some 24) 13 #[.agg (loC ⟨l.s, l.nu, l.lv, A1, l.m, c1⟩), .agg (ajC a), .agg (heC ⟨h.s, h.nu, h.lv, h.ho, B1, h.m, d1, h.st, h.nm, h.th, h.tn⟩), .int .i64 now] (.tuple #[.agg (ajC R1.1), .int .i64 R1.2]) (R := fun w' => Below W9.heap.size W9 w') rfl rfl (by kernel_rfl) (by rfl) (by go_simp) (step_law l a h now L H L1 H1 A1 B1 c1 d1 _ HYL.out HYA1.out HYH.out HYT.out HXL.out HXH.out (by have := HML.out; omega) (by have := HMH.out; omega) HSL.out HSH.out R1 HR1.out) (fun w' hb => ⟨hS.1.below hb hS.1.lt, hS.2.1.below hb hS.2.1.lt, hS.2.2.1.below hb hS.2.2.1.lt, hS.2.2.2.trans (hb.mono hS.2.2.2.size)⟩) ?_
        intro W10 hb1 hS2
        simp only [Act.put, List.setIfInBounds_toArray, List.set_cons_zero, List.set_cons_succ]
        have HXLn := Lib.hid (HXL.out.below hb1)
        clear HXL
        have HXL := HXLn
        clear HXLn
        have HXHn := Lib.hid (HXH.out.below hb1)
        clear HXH
        have HXH := HXHn
        clear HXHn
        have K4n := Lib.hid (K4.out.below hb1 K4.out.lt)
        clear K4
        have K4 := K4n
        clear K4n
        clear K1
        clear K2
        clear K3
        clear HB
        clear hS
        have hS := hS2
        clear hS2
        have K1 := Lib.hid hS.1
        have K2 := Lib.hid hS.2.1
        have K3 := Lib.hid hS.2.2.1
        have HB := Lib.hid hS.2.2.2
        clear HXL HXH HSL HSH
        clear hb1
        refine takeY (i := 7) (some 17) (v := .tuple #[.agg (ajC R1.1), .int .i64 R1.2]) rfl rfl (by kernel_rfl) (by kernel_rfl) (by kernel_rfl) (fun _ _ _ h => h) (by rfl) (fun w' hS => by go_simp) hS ?_
        simp only [Act.put, List.setIfInBounds_toArray, List.set_cons_zero, List.set_cons_succ]
        refine takeY (i := 8) (some 25) (v := .agg (ajC R1.1)) rfl rfl (by kernel_rfl) (by kernel_rfl) (by kernel_rfl) (fun _ _ _ h => h) (by rfl) (fun w' hS => by go_simp) hS ?_
        simp only [Act.put, List.setIfInBounds_toArray, List.set_cons_zero, List.set_cons_succ]
        refine takeY (i := 9) (some 26) (v := .int .i64 R1.2) rfl rfl (by kernel_rfl) (by kernel_rfl) (by kernel_rfl) (fun _ _ _ h => h) (by rfl) (fun w' hS => by go_simp) hS ?_
        simp only [Act.put, List.setIfInBounds_toArray, List.set_cons_zero, List.set_cons_succ]
        refine takeSt (i := 11) 36 (.tmp 9) (.tmp 25) M1 0 (.agg (ajC R1.1)) (ajC R1.1) (ajC R1.1) rfl rfl (by kernel_rfl) (by rfl) rfl rfl rfl rfl info_ajP (ajC_one _) K4.out (Nat.le_of_ble_eq_true rfl) (by kernel_rfl) ?_
        intro W11 q1
        refine ⟨⟨K1.out.far q1 (by omega), K2.out.far q1 (by omega), K3.out.far q1 (by omega), HB.out.trans (q1.2.1 _ (by omega))⟩, ?_⟩
        simp only [Act.put, List.setIfInBounds_toArray, List.set_cons_zero, List.set_cons_succ]
        have K4n : Hid (Blk 36 W11 M1 (ajC R1.1)) := Lib.hid q1.1
        clear K4
        have K4 := K4n
        clear K4n
        have K1n := Lib.hid (K1.out.far q1 (by omega))
        clear K1
        have K1 := K1n
        clear K1n
        have K2n := Lib.hid (K2.out.far q1 (by omega))
        clear K2
        have K2 := K2n
        clear K2n
        have K3n := Lib.hid (K3.out.far q1 (by omega))
        clear K3
        have K3 := K3n
        clear K3n
        have HBn := Lib.hid (HB.out.trans (q1.2.1 _ (by omega)))
        clear HB
        have HB := HBn
        clear HBn
        clear q1 hS
        have hS := (And.intro K1.out (And.intro K2.out (And.intro K3.out HB.out)))
        refine takeY (i := 12) (some 10) (v := .int .i64 R1.2) rfl rfl (by kernel_rfl) (by kernel_rfl) (by kernel_rfl) (fun _ _ _ h => h) (by rfl) (fun w' hS => by go_simp) hS ?_
        simp only [Act.put, List.setIfInBounds_toArray, List.set_cons_zero, List.set_cons_succ]
        clear hS
        refine wpAnyH_done (by kernel_rfl) ?_ _
        go_wp2_with fail
        go_meet
        case rel => exact ⟨M1, rfl, rfl, K4, lt_N1_M1, K1, lt_N2_M1, K2, lt_N3_M1, K3, le_HB_M1, HB⟩
    · skip
      intro W7 k1 b1 s1
      refine ⟨⟨hS.1.below b1 hS.1.lt, hS.2.1.below b1 hS.2.1.lt, hS.2.2.1.below b1 hS.2.2.1.lt, hS.2.2.2.trans (b1.mono hS.2.2.2.size)⟩, ?_⟩
      simp only [Act.put, List.setIfInBounds_toArray, List.set_cons_zero, List.set_cons_succ]
      have K4 := Lib.hid k1
      clear k1
      have lt_N1_M0 : N1 < M0 := by rw [← HM0.out]; exact K1.out.lt
      have lt_N2_M0 : N2 < M0 := by rw [← HM0.out]; exact K2.out.lt
      have lt_N3_M0 : N3 < M0 := by rw [← HM0.out]; exact K3.out.lt
      have le_HB_M0 : w.heap.size ≤ M0 := by rw [← HM0.out]; exact HB.out.size
      have K1n := Lib.hid (K1.out.below b1 K1.out.lt)
      clear K1
      have K1 := K1n
      clear K1n
      have K2n := Lib.hid (K2.out.below b1 K2.out.lt)
      clear K2
      have K2 := K2n
      clear K2n
      have K3n := Lib.hid (K3.out.below b1 K3.out.lt)
      clear K3
      have K3 := K3n
      clear K3n
      have HBn := Lib.hid (HB.out.trans (b1.mono HB.out.size))
      clear HB
      have HB := HBn
      clear HBn
      clear b1 HM0 hS
      have hS := (And.intro K1.out (And.intro K2.out (And.intro K3.out HB.out)))
      refine takeCE (i := 1) (some 19) 11 #[.agg (loC l)] (R := fun v w' => LocV W7 l L v w') rfl rfl (by kernel_rfl) (by rfl) (by go_simp) (local_v l L W7 (HRL.out.below HB.out) HML.out) (fun v w' h => by obtain ⟨A1, c1, L1, rfl, hr1, hs1, hb1⟩ := h; exact ⟨hS.1.below hb1 hS.1.lt, hS.2.1.below hb1 hS.2.1.lt, hS.2.2.1.below hb1 hS.2.2.1.lt, hS.2.2.2.trans (hb1.mono hS.2.2.2.size)⟩) ?_
      intro v W8 h hS2
      obtain ⟨A1, c1, L1, rfl, hr1, hs1, hb1⟩ := h
      simp only [Act.put, List.setIfInBounds_toArray, List.set_cons_zero, List.set_cons_succ]
      have K4n := Lib.hid (K4.out.below hb1 K4.out.lt)
      clear K4
      have K4 := K4n
      clear K4n
      clear K1
      clear K2
      clear K3
      clear HB
      clear hS
      have hS := hS2
      clear hS2
      have K1 := Lib.hid hS.1
      have K2 := Lib.hid hS.2.1
      have K3 := Lib.hid hS.2.2.1
      have HB := Lib.hid hS.2.2.2
      have HXL := Lib.hid hr1
      have HSL := Lib.hid hs1
      clear hr1 hs1 hb1
      refine takeCE (i := 4) (some 22) 12 #[.agg (heC h)] (R := fun v w' => HelV W8 h H v w') rfl rfl (by kernel_rfl) (by rfl) (by go_simp) (hello_v h H W8 (HRH.out.below HB.out) HMH.out) (fun v w' h => by obtain ⟨B1, d1, H1, rfl, hr1, hs1, hb1⟩ := h; exact ⟨hS.1.below hb1 hS.1.lt, hS.2.1.below hb1 hS.2.1.lt, hS.2.2.1.below hb1 hS.2.2.1.lt, hS.2.2.2.trans (hb1.mono hS.2.2.2.size)⟩) ?_
      intro v W9 h hS2
      obtain ⟨B1, d1, H1, rfl, hr1, hs1, hb1⟩ := h
      simp only [Act.put, List.setIfInBounds_toArray, List.set_cons_zero, List.set_cons_succ]
      have HXLn := Lib.hid (HXL.out.below hb1)
      clear HXL
      have HXL := HXLn
      clear HXLn
      have K4n := Lib.hid (K4.out.below hb1 K4.out.lt)
      clear K4
      have K4 := K4n
      clear K4n
      clear K1
      clear K2
      clear K3
      clear HB
      clear hS
      have hS := hS2
      clear hS2
      have K1 := Lib.hid hS.1
      have K2 := Lib.hid hS.2.1
      have K3 := Lib.hid hS.2.2.1
      have HB := Lib.hid hS.2.2.2
      have HXH := Lib.hid hr1
      have HSH := Lib.hid hs1
      clear hr1 hs1 hb1
      refine takeC (i := 6) (some 24) 13 #[.agg (loC ⟨l.s, l.nu, l.lv, A1, l.m, c1⟩), .agg (ajC a), .agg (heC ⟨h.s, h.nu, h.lv, h.ho, B1, h.m, d1, h.st, h.nm, h.th, h.tn⟩), .int .i64 now] (.tuple #[.agg (ajC R1.1), .int .i64 R1.2]) (R := fun w' => Below W9.heap.size W9 w') rfl rfl (by kernel_rfl) (by rfl) (by go_simp) (step_law l a h now L H L1 H1 A1 B1 c1 d1 _ HYL.out HYA1.out HYH.out HYT.out HXL.out HXH.out (by have := HML.out; omega) (by have := HMH.out; omega) HSL.out HSH.out R1 HR1.out) (fun w' hb => ⟨hS.1.below hb hS.1.lt, hS.2.1.below hb hS.2.1.lt, hS.2.2.1.below hb hS.2.2.1.lt, hS.2.2.2.trans (hb.mono hS.2.2.2.size)⟩) ?_
      intro W10 hb1 hS2
      simp only [Act.put, List.setIfInBounds_toArray, List.set_cons_zero, List.set_cons_succ]
      have HXLn := Lib.hid (HXL.out.below hb1)
      clear HXL
      have HXL := HXLn
      clear HXLn
      have HXHn := Lib.hid (HXH.out.below hb1)
      clear HXH
      have HXH := HXHn
      clear HXHn
      have K4n := Lib.hid (K4.out.below hb1 K4.out.lt)
      clear K4
      have K4 := K4n
      clear K4n
      clear K1
      clear K2
      clear K3
      clear HB
      clear hS
      have hS := hS2
      clear hS2
      have K1 := Lib.hid hS.1
      have K2 := Lib.hid hS.2.1
      have K3 := Lib.hid hS.2.2.1
      have HB := Lib.hid hS.2.2.2
      clear HXL HXH HSL HSH
      clear hb1
      refine takeY (i := 7) (some 17) (v := .tuple #[.agg (ajC R1.1), .int .i64 R1.2]) rfl rfl (by kernel_rfl) (by kernel_rfl) (by kernel_rfl) (fun _ _ _ h => h) (by rfl) (fun w' hS => by go_simp) hS ?_
      simp only [Act.put, List.setIfInBounds_toArray, List.set_cons_zero, List.set_cons_succ]
      refine takeY (i := 8) (some 25) (v := .agg (ajC R1.1)) rfl rfl (by kernel_rfl) (by kernel_rfl) (by kernel_rfl) (fun _ _ _ h => h) (by rfl) (fun w' hS => by go_simp) hS ?_
      simp only [Act.put, List.setIfInBounds_toArray, List.set_cons_zero, List.set_cons_succ]
      refine takeY (i := 9) (some 26) (v := .int .i64 R1.2) rfl rfl (by kernel_rfl) (by kernel_rfl) (by kernel_rfl) (fun _ _ _ h => h) (by rfl) (fun w' hS => by go_simp) hS ?_
      simp only [Act.put, List.setIfInBounds_toArray, List.set_cons_zero, List.set_cons_succ]
      refine takeSt (i := 11) 36 (.tmp 9) (.tmp 25) M0 0 (.agg (ajC R1.1)) (ajC R1.1) (ajC R1.1) rfl rfl (by kernel_rfl) (by rfl) rfl rfl rfl rfl info_ajP (ajC_one _) K4.out (Nat.le_of_ble_eq_true rfl) (by kernel_rfl) ?_
      intro W11 q1
      refine ⟨⟨K1.out.far q1 (by omega), K2.out.far q1 (by omega), K3.out.far q1 (by omega), HB.out.trans (q1.2.1 _ (by omega))⟩, ?_⟩
      simp only [Act.put, List.setIfInBounds_toArray, List.set_cons_zero, List.set_cons_succ]
      have K4n : Hid (Blk 36 W11 M0 (ajC R1.1)) := Lib.hid q1.1
      clear K4
      have K4 := K4n
      clear K4n
      have K1n := Lib.hid (K1.out.far q1 (by omega))
      clear K1
      have K1 := K1n
      clear K1n
      have K2n := Lib.hid (K2.out.far q1 (by omega))
      clear K2
      have K2 := K2n
      clear K2n
      have K3n := Lib.hid (K3.out.far q1 (by omega))
      clear K3
      have K3 := K3n
      clear K3n
      have HBn := Lib.hid (HB.out.trans (q1.2.1 _ (by omega)))
      clear HB
      have HB := HBn
      clear HBn
      clear q1 hS
      have hS := (And.intro K1.out (And.intro K2.out (And.intro K3.out HB.out)))
      refine takeY (i := 12) (some 10) (v := .int .i64 R1.2) rfl rfl (by kernel_rfl) (by kernel_rfl) (by kernel_rfl) (fun _ _ _ h => h) (by rfl) (fun w' hS => by go_simp) hS ?_
      simp only [Act.put, List.setIfInBounds_toArray, List.set_cons_zero, List.set_cons_succ]
      clear hS
      refine wpAnyH_done (by kernel_rfl) ?_ _
      go_wp2_with fail
      go_meet
      case rel => exact ⟨M0, rfl, rfl, K4, lt_N1_M0, K1, lt_N2_M0, K2, lt_N3_M0, K3, le_HB_M0, HB⟩
  case rest =>
  clear K1
  clear K2
  clear K3
  clear HB
  obtain ⟨NK4, rfl, rfl, K4, lt_N1_NK4, K1, lt_N2_NK4, K2, lt_N3_NK4, K3, le_HB_NK4, HB⟩ := hcut
  go_wp2_with fail
  go_cut [11, 12] (fun s1 s2 wc => ∃ N, s1 = .pointer (some ⟨N, 0, none⟩) ∧ s2 = .int .i64 R2.2 ∧ Hid (Blk 36 wc N (ajC R2.1)) ∧ N1 < N ∧ Hid (Blk 26 wc N1 (loC l)) ∧ N2 < N ∧ Hid (Blk 28 wc N2 (ajC a)) ∧ N3 < N ∧ Hid (Blk 30 wc N3 (heC h)) ∧ NK4 < N ∧ Hid (Blk 36 wc NK4 (ajC R1.1)) ∧ w.heap.size ≤ N ∧ Hid (Below w.heap.size w wc))
  case first =>
    refine wp_region_held_drew (S := fun w' => Blk 26 w' N1 (loC l) ∧ Blk 28 w' N2 (ajC a) ∧ Blk 30 w' N3 (heC h) ∧ Blk 36 w' NK4 (ajC R1.1) ∧ Below w.heap.size w w') (by kernel_rfl) ⟨K1.out, K2.out, K3.out, K4.out, HB.out.drew⟩ (fun hS => ?_)
    generalize hW6 : wc.drew = W6 at hS ⊢
    clear hW6
    clear K1
    clear K2
    clear K3
    clear K4
    clear HB
    have K1 := Lib.hid hS.1
    have K2 := Lib.hid hS.2.1
    have K3 := Lib.hid hS.2.2.1
    have K4 := Lib.hid hS.2.2.2.1
    have HB := Lib.hid hS.2.2.2.2
    refine takeL (i := 0) (some 28) 26 (.tmp 4) N1 0 (loC l) _ rfl rfl (by kernel_rfl) (by kernel_rfl) (by kernel_rfl) (fun _ _ _ h => h) (by rfl) rfl rfl (fun w' hS => hS.1.all) Try.underlying26 rfl info_loR hS ?_
    simp only [Act.put, List.setIfInBounds_toArray, List.set_cons_zero, List.set_cons_succ]
    refine takeL (i := 2) (some 30) 36 (.tmp 9) NK4 0 (ajC R1.1) _ rfl rfl (by kernel_rfl) (by kernel_rfl) (by kernel_rfl) (fun _ _ _ h => h) (by rfl) rfl rfl (fun w' hS => hS.2.2.2.1.all) Try.underlying36 rfl info_ajP hS ?_
    simp only [Act.put, List.setIfInBounds_toArray, List.set_cons_zero, List.set_cons_succ]
    refine takeL (i := 3) (some 31) 30 (.tmp 6) N3 0 (heC h) _ rfl rfl (by kernel_rfl) (by kernel_rfl) (by kernel_rfl) (fun _ _ _ h => h) (by rfl) rfl rfl (fun w' hS => hS.2.2.1.all) Try.underlying30 rfl info_heR hS ?_
    simp only [Act.put, List.setIfInBounds_toArray, List.set_cons_zero, List.set_cons_succ]
    refine takeY (i := 5) (some 33) (v := .int .i64 now) rfl rfl (by kernel_rfl) (by kernel_rfl) (by kernel_rfl) (fun _ _ _ h => h) (by rfl) (fun w' hS => by go_simp) hS ?_
    simp only [Act.put, List.setIfInBounds_toArray, List.set_cons_zero, List.set_cons_succ]
    obtain ⟨M0, hM0⟩ : ∃ N, W6.heap.size = N := ⟨_, rfl⟩
    have HM0 := Lib.hid hM0
    clear hM0
    refine wpAnyH_ready (show Region.ready _ _ _ = [1, 10] from by kernel_rfl) (by simp) (consCE (i := 1) (some 29) 11 #[.agg (loC l)] (R := fun v w' => LocV W6 l L v w') rfl rfl (by rfl) (by go_simp) (local_v l L W6 (HRL.out.below HB.out) HML.out) (fun v w' h => by obtain ⟨A2, c2, L2, rfl, hr1, hs1, hb1⟩ := h; exact ⟨hS.1.below hb1 hS.1.lt, hS.2.1.below hb1 hS.2.1.lt, hS.2.2.1.below hb1 hS.2.2.1.lt, hS.2.2.2.1.below hb1 hS.2.2.2.1.lt, hS.2.2.2.2.trans (hb1.mono hS.2.2.2.2.size)⟩) ?_ (consMk (i := 10) (some 11) 36 (ajC aj0) rfl rfl (by rfl) rfl zero_ajP M0 HM0.out ?_ AllReadyH.nil))
    · skip
      clear HM0
      intro v W7 h hS2
      obtain ⟨A2, c2, L2, rfl, hr1, hs1, hb1⟩ := h
      simp only [Act.put, List.setIfInBounds_toArray, List.set_cons_zero, List.set_cons_succ]
      clear K1
      clear K2
      clear K3
      clear K4
      clear HB
      clear hS
      have hS := hS2
      clear hS2
      have K1 := Lib.hid hS.1
      have K2 := Lib.hid hS.2.1
      have K3 := Lib.hid hS.2.2.1
      have K4 := Lib.hid hS.2.2.2.1
      have HB := Lib.hid hS.2.2.2.2
      have HXL := Lib.hid hr1
      have HSL := Lib.hid hs1
      clear hr1 hs1 hb1
      obtain ⟨M1, hM1⟩ : ∃ N, W7.heap.size = N := ⟨_, rfl⟩
      have HM1 := Lib.hid hM1
      clear hM1
      refine wpAnyH_ready (show Region.ready _ _ _ = [4, 10] from by kernel_rfl) (by simp) (consCE (i := 4) (some 32) 12 #[.agg (heC h)] (R := fun v w' => HelV W7 h H v w') rfl rfl (by rfl) (by go_simp) (hello_v h H W7 (HRH.out.below HB.out) HMH.out) (fun v w' h => by obtain ⟨B2, d2, H2, rfl, hr1, hs1, hb1⟩ := h; exact ⟨hS.1.below hb1 hS.1.lt, hS.2.1.below hb1 hS.2.1.lt, hS.2.2.1.below hb1 hS.2.2.1.lt, hS.2.2.2.1.below hb1 hS.2.2.2.1.lt, hS.2.2.2.2.trans (hb1.mono hS.2.2.2.2.size)⟩) ?_ (consMk (i := 10) (some 11) 36 (ajC aj0) rfl rfl (by rfl) rfl zero_ajP M1 HM1.out ?_ AllReadyH.nil))
      · skip
        clear HM1
        intro v W8 h hS2
        obtain ⟨B2, d2, H2, rfl, hr1, hs1, hb1⟩ := h
        simp only [Act.put, List.setIfInBounds_toArray, List.set_cons_zero, List.set_cons_succ]
        have HXLn := Lib.hid (HXL.out.below hb1)
        clear HXL
        have HXL := HXLn
        clear HXLn
        clear K1
        clear K2
        clear K3
        clear K4
        clear HB
        clear hS
        have hS := hS2
        clear hS2
        have K1 := Lib.hid hS.1
        have K2 := Lib.hid hS.2.1
        have K3 := Lib.hid hS.2.2.1
        have K4 := Lib.hid hS.2.2.2.1
        have HB := Lib.hid hS.2.2.2.2
        have HXH := Lib.hid hr1
        have HSH := Lib.hid hs1
        clear hr1 hs1 hb1
        obtain ⟨M2, hM2⟩ : ∃ N, W8.heap.size = N := ⟨_, rfl⟩
        have HM2 := Lib.hid hM2
        clear hM2
        refine wpAnyH_ready (show Region.ready _ _ _ = [6, 10] from by kernel_rfl) (by simp) (consC (i := 6) (some 34) 13 #[.agg (loC ⟨l.s, l.nu, l.lv, A2, l.m, c2⟩), .agg (ajC R1.1), .agg (heC ⟨h.s, h.nu, h.lv, h.ho, B2, h.m, d2, h.st, h.nm, h.th, h.tn⟩), .int .i64 now] (.tuple #[.agg (ajC R2.1), .int .i64 R2.2]) (R := fun w' => Below W8.heap.size W8 w') rfl rfl (by rfl) (by go_simp) (step_law l R1.1 h now L H L2 H2 A2 B2 c2 d2 _ HYL.out HYA2.out HYH.out HYT.out HXL.out HXH.out (by have := HML.out; omega) (by have := HMH.out; omega) HSL.out HSH.out R2 HR2.out) (fun w' hb => ⟨hS.1.below hb hS.1.lt, hS.2.1.below hb hS.2.1.lt, hS.2.2.1.below hb hS.2.2.1.lt, hS.2.2.2.1.below hb hS.2.2.2.1.lt, hS.2.2.2.2.trans (hb.mono hS.2.2.2.2.size)⟩) ?_ (consMk (i := 10) (some 11) 36 (ajC aj0) rfl rfl (by rfl) rfl zero_ajP M2 HM2.out ?_ AllReadyH.nil))
        · skip
          clear HM2
          intro W9 hb1 hS2
          simp only [Act.put, List.setIfInBounds_toArray, List.set_cons_zero, List.set_cons_succ]
          have HXLn := Lib.hid (HXL.out.below hb1)
          clear HXL
          have HXL := HXLn
          clear HXLn
          have HXHn := Lib.hid (HXH.out.below hb1)
          clear HXH
          have HXH := HXHn
          clear HXHn
          clear K1
          clear K2
          clear K3
          clear K4
          clear HB
          clear hS
          have hS := hS2
          clear hS2
          have K1 := Lib.hid hS.1
          have K2 := Lib.hid hS.2.1
          have K3 := Lib.hid hS.2.2.1
          have K4 := Lib.hid hS.2.2.2.1
          have HB := Lib.hid hS.2.2.2.2
          clear HXL HXH HSL HSH
          clear hb1
          obtain ⟨M3, hM3⟩ : ∃ N, W9.heap.size = N := ⟨_, rfl⟩
          have HM3 := Lib.hid hM3
          clear hM3
          refine takeY (i := 7) (some 27) (v := .tuple #[.agg (ajC R2.1), .int .i64 R2.2]) rfl rfl (by kernel_rfl) (by kernel_rfl) (by kernel_rfl) (fun _ _ _ h => h) (by rfl) (fun w' hS => by go_simp) hS ?_
          simp only [Act.put, List.setIfInBounds_toArray, List.set_cons_zero, List.set_cons_succ]
          refine takeY (i := 8) (some 35) (v := .agg (ajC R2.1)) rfl rfl (by kernel_rfl) (by kernel_rfl) (by kernel_rfl) (fun _ _ _ h => h) (by rfl) (fun w' hS => by go_simp) hS ?_
          simp only [Act.put, List.setIfInBounds_toArray, List.set_cons_zero, List.set_cons_succ]
          refine takeY (i := 9) (some 36) (v := .int .i64 R2.2) rfl rfl (by kernel_rfl) (by kernel_rfl) (by kernel_rfl) (fun _ _ _ h => h) (by rfl) (fun w' hS => by go_simp) hS ?_
          simp only [Act.put, List.setIfInBounds_toArray, List.set_cons_zero, List.set_cons_succ]
          refine takeMk (i := 10) (some 11) 36 (ajC aj0) rfl rfl (by kernel_rfl) (by rfl) rfl zero_ajP M3 HM3.out ?_
          intro W10 k1 b1 s1
          refine ⟨⟨hS.1.below b1 hS.1.lt, hS.2.1.below b1 hS.2.1.lt, hS.2.2.1.below b1 hS.2.2.1.lt, hS.2.2.2.1.below b1 hS.2.2.2.1.lt, hS.2.2.2.2.trans (b1.mono hS.2.2.2.2.size)⟩, ?_⟩
          simp only [Act.put, List.setIfInBounds_toArray, List.set_cons_zero, List.set_cons_succ]
          have K5 := Lib.hid k1
          clear k1
          have lt_N1_M3 : N1 < M3 := by rw [← HM3.out]; exact K1.out.lt
          have lt_N2_M3 : N2 < M3 := by rw [← HM3.out]; exact K2.out.lt
          have lt_N3_M3 : N3 < M3 := by rw [← HM3.out]; exact K3.out.lt
          have lt_NK4_M3 : NK4 < M3 := by rw [← HM3.out]; exact K4.out.lt
          have le_HB_M3 : w.heap.size ≤ M3 := by rw [← HM3.out]; exact HB.out.size
          have K1n := Lib.hid (K1.out.below b1 K1.out.lt)
          clear K1
          have K1 := K1n
          clear K1n
          have K2n := Lib.hid (K2.out.below b1 K2.out.lt)
          clear K2
          have K2 := K2n
          clear K2n
          have K3n := Lib.hid (K3.out.below b1 K3.out.lt)
          clear K3
          have K3 := K3n
          clear K3n
          have K4n := Lib.hid (K4.out.below b1 K4.out.lt)
          clear K4
          have K4 := K4n
          clear K4n
          have HBn := Lib.hid (HB.out.trans (b1.mono HB.out.size))
          clear HB
          have HB := HBn
          clear HBn
          clear b1 HM3 hS
          have hS := (And.intro K1.out (And.intro K2.out (And.intro K3.out (And.intro K4.out HB.out))))
          refine takeSt (i := 11) 36 (.tmp 11) (.tmp 35) M3 0 (.agg (ajC R2.1)) (ajC R2.1) (ajC R2.1) rfl rfl (by kernel_rfl) (by rfl) rfl rfl rfl rfl info_ajP (ajC_one _) K5.out (Nat.le_of_ble_eq_true rfl) (by kernel_rfl) ?_
          intro W11 q1
          refine ⟨⟨K1.out.far q1 (by omega), K2.out.far q1 (by omega), K3.out.far q1 (by omega), K4.out.far q1 (by omega), HB.out.trans (q1.2.1 _ (by omega))⟩, ?_⟩
          simp only [Act.put, List.setIfInBounds_toArray, List.set_cons_zero, List.set_cons_succ]
          have K5n : Hid (Blk 36 W11 M3 (ajC R2.1)) := Lib.hid q1.1
          clear K5
          have K5 := K5n
          clear K5n
          have K1n := Lib.hid (K1.out.far q1 (by omega))
          clear K1
          have K1 := K1n
          clear K1n
          have K2n := Lib.hid (K2.out.far q1 (by omega))
          clear K2
          have K2 := K2n
          clear K2n
          have K3n := Lib.hid (K3.out.far q1 (by omega))
          clear K3
          have K3 := K3n
          clear K3n
          have K4n := Lib.hid (K4.out.far q1 (by omega))
          clear K4
          have K4 := K4n
          clear K4n
          have HBn := Lib.hid (HB.out.trans (q1.2.1 _ (by omega)))
          clear HB
          have HB := HBn
          clear HBn
          clear q1 hS
          have hS := (And.intro K1.out (And.intro K2.out (And.intro K3.out (And.intro K4.out HB.out))))
          refine takeY (i := 12) (some 12) (v := .int .i64 R2.2) rfl rfl (by kernel_rfl) (by kernel_rfl) (by kernel_rfl) (fun _ _ _ h => h) (by rfl) (fun w' hS => by go_simp) hS ?_
          simp only [Act.put, List.setIfInBounds_toArray, List.set_cons_zero, List.set_cons_succ]
          clear hS
          refine wpAnyH_done (by kernel_rfl) ?_ _
          go_wp2_with fail
          go_meet
          case rel => exact ⟨M3, rfl, rfl, K5, lt_N1_M3, K1, lt_N2_M3, K2, lt_N3_M3, K3, lt_NK4_M3, K4, le_HB_M3, HB⟩
        · skip
          intro W10 k1 b1 s1
          refine ⟨⟨hS.1.below b1 hS.1.lt, hS.2.1.below b1 hS.2.1.lt, hS.2.2.1.below b1 hS.2.2.1.lt, hS.2.2.2.1.below b1 hS.2.2.2.1.lt, hS.2.2.2.2.trans (b1.mono hS.2.2.2.2.size)⟩, ?_⟩
          simp only [Act.put, List.setIfInBounds_toArray, List.set_cons_zero, List.set_cons_succ]
          have K5 := Lib.hid k1
          clear k1
          have lt_N1_M2 : N1 < M2 := by rw [← HM2.out]; exact K1.out.lt
          have lt_N2_M2 : N2 < M2 := by rw [← HM2.out]; exact K2.out.lt
          have lt_N3_M2 : N3 < M2 := by rw [← HM2.out]; exact K3.out.lt
          have lt_NK4_M2 : NK4 < M2 := by rw [← HM2.out]; exact K4.out.lt
          have le_HB_M2 : w.heap.size ≤ M2 := by rw [← HM2.out]; exact HB.out.size
          have HXLn := Lib.hid (HXL.out.below b1)
          clear HXL
          have HXL := HXLn
          clear HXLn
          have HXHn := Lib.hid (HXH.out.below b1)
          clear HXH
          have HXH := HXHn
          clear HXHn
          have K1n := Lib.hid (K1.out.below b1 K1.out.lt)
          clear K1
          have K1 := K1n
          clear K1n
          have K2n := Lib.hid (K2.out.below b1 K2.out.lt)
          clear K2
          have K2 := K2n
          clear K2n
          have K3n := Lib.hid (K3.out.below b1 K3.out.lt)
          clear K3
          have K3 := K3n
          clear K3n
          have K4n := Lib.hid (K4.out.below b1 K4.out.lt)
          clear K4
          have K4 := K4n
          clear K4n
          have HBn := Lib.hid (HB.out.trans (b1.mono HB.out.size))
          clear HB
          have HB := HBn
          clear HBn
          clear b1 HM2 hS
          have hS := (And.intro K1.out (And.intro K2.out (And.intro K3.out (And.intro K4.out HB.out))))
          refine takeC (i := 6) (some 34) 13 #[.agg (loC ⟨l.s, l.nu, l.lv, A2, l.m, c2⟩), .agg (ajC R1.1), .agg (heC ⟨h.s, h.nu, h.lv, h.ho, B2, h.m, d2, h.st, h.nm, h.th, h.tn⟩), .int .i64 now] (.tuple #[.agg (ajC R2.1), .int .i64 R2.2]) (R := fun w' => Below W10.heap.size W10 w') rfl rfl (by kernel_rfl) (by rfl) (by go_simp) (step_law l R1.1 h now L H L2 H2 A2 B2 c2 d2 _ HYL.out HYA2.out HYH.out HYT.out HXL.out HXH.out (by have := HML.out; omega) (by have := HMH.out; omega) HSL.out HSH.out R2 HR2.out) (fun w' hb => ⟨hS.1.below hb hS.1.lt, hS.2.1.below hb hS.2.1.lt, hS.2.2.1.below hb hS.2.2.1.lt, hS.2.2.2.1.below hb hS.2.2.2.1.lt, hS.2.2.2.2.trans (hb.mono hS.2.2.2.2.size)⟩) ?_
          intro W11 hb1 hS2
          simp only [Act.put, List.setIfInBounds_toArray, List.set_cons_zero, List.set_cons_succ]
          have HXLn := Lib.hid (HXL.out.below hb1)
          clear HXL
          have HXL := HXLn
          clear HXLn
          have HXHn := Lib.hid (HXH.out.below hb1)
          clear HXH
          have HXH := HXHn
          clear HXHn
          have K5n := Lib.hid (K5.out.below hb1 K5.out.lt)
          clear K5
          have K5 := K5n
          clear K5n
          clear K1
          clear K2
          clear K3
          clear K4
          clear HB
          clear hS
          have hS := hS2
          clear hS2
          have K1 := Lib.hid hS.1
          have K2 := Lib.hid hS.2.1
          have K3 := Lib.hid hS.2.2.1
          have K4 := Lib.hid hS.2.2.2.1
          have HB := Lib.hid hS.2.2.2.2
          clear HXL HXH HSL HSH
          clear hb1
          refine takeY (i := 7) (some 27) (v := .tuple #[.agg (ajC R2.1), .int .i64 R2.2]) rfl rfl (by kernel_rfl) (by kernel_rfl) (by kernel_rfl) (fun _ _ _ h => h) (by rfl) (fun w' hS => by go_simp) hS ?_
          simp only [Act.put, List.setIfInBounds_toArray, List.set_cons_zero, List.set_cons_succ]
          refine takeY (i := 8) (some 35) (v := .agg (ajC R2.1)) rfl rfl (by kernel_rfl) (by kernel_rfl) (by kernel_rfl) (fun _ _ _ h => h) (by rfl) (fun w' hS => by go_simp) hS ?_
          simp only [Act.put, List.setIfInBounds_toArray, List.set_cons_zero, List.set_cons_succ]
          refine takeY (i := 9) (some 36) (v := .int .i64 R2.2) rfl rfl (by kernel_rfl) (by kernel_rfl) (by kernel_rfl) (fun _ _ _ h => h) (by rfl) (fun w' hS => by go_simp) hS ?_
          simp only [Act.put, List.setIfInBounds_toArray, List.set_cons_zero, List.set_cons_succ]
          refine takeSt (i := 11) 36 (.tmp 11) (.tmp 35) M2 0 (.agg (ajC R2.1)) (ajC R2.1) (ajC R2.1) rfl rfl (by kernel_rfl) (by rfl) rfl rfl rfl rfl info_ajP (ajC_one _) K5.out (Nat.le_of_ble_eq_true rfl) (by kernel_rfl) ?_
          intro W12 q1
          refine ⟨⟨K1.out.far q1 (by omega), K2.out.far q1 (by omega), K3.out.far q1 (by omega), K4.out.far q1 (by omega), HB.out.trans (q1.2.1 _ (by omega))⟩, ?_⟩
          simp only [Act.put, List.setIfInBounds_toArray, List.set_cons_zero, List.set_cons_succ]
          have K5n : Hid (Blk 36 W12 M2 (ajC R2.1)) := Lib.hid q1.1
          clear K5
          have K5 := K5n
          clear K5n
          have K1n := Lib.hid (K1.out.far q1 (by omega))
          clear K1
          have K1 := K1n
          clear K1n
          have K2n := Lib.hid (K2.out.far q1 (by omega))
          clear K2
          have K2 := K2n
          clear K2n
          have K3n := Lib.hid (K3.out.far q1 (by omega))
          clear K3
          have K3 := K3n
          clear K3n
          have K4n := Lib.hid (K4.out.far q1 (by omega))
          clear K4
          have K4 := K4n
          clear K4n
          have HBn := Lib.hid (HB.out.trans (q1.2.1 _ (by omega)))
          clear HB
          have HB := HBn
          clear HBn
          clear q1 hS
          have hS := (And.intro K1.out (And.intro K2.out (And.intro K3.out (And.intro K4.out HB.out))))
          refine takeY (i := 12) (some 12) (v := .int .i64 R2.2) rfl rfl (by kernel_rfl) (by kernel_rfl) (by kernel_rfl) (fun _ _ _ h => h) (by rfl) (fun w' hS => by go_simp) hS ?_
          simp only [Act.put, List.setIfInBounds_toArray, List.set_cons_zero, List.set_cons_succ]
          clear hS
          refine wpAnyH_done (by kernel_rfl) ?_ _
          go_wp2_with fail
          go_meet
          case rel => exact ⟨M2, rfl, rfl, K5, lt_N1_M2, K1, lt_N2_M2, K2, lt_N3_M2, K3, lt_NK4_M2, K4, le_HB_M2, HB⟩
      · skip
        intro W9 k1 b1 s1
        refine ⟨⟨hS.1.below b1 hS.1.lt, hS.2.1.below b1 hS.2.1.lt, hS.2.2.1.below b1 hS.2.2.1.lt, hS.2.2.2.1.below b1 hS.2.2.2.1.lt, hS.2.2.2.2.trans (b1.mono hS.2.2.2.2.size)⟩, ?_⟩
        simp only [Act.put, List.setIfInBounds_toArray, List.set_cons_zero, List.set_cons_succ]
        have K5 := Lib.hid k1
        clear k1
        have lt_N1_M1 : N1 < M1 := by rw [← HM1.out]; exact K1.out.lt
        have lt_N2_M1 : N2 < M1 := by rw [← HM1.out]; exact K2.out.lt
        have lt_N3_M1 : N3 < M1 := by rw [← HM1.out]; exact K3.out.lt
        have lt_NK4_M1 : NK4 < M1 := by rw [← HM1.out]; exact K4.out.lt
        have le_HB_M1 : w.heap.size ≤ M1 := by rw [← HM1.out]; exact HB.out.size
        have HXLn := Lib.hid (HXL.out.below b1)
        clear HXL
        have HXL := HXLn
        clear HXLn
        have K1n := Lib.hid (K1.out.below b1 K1.out.lt)
        clear K1
        have K1 := K1n
        clear K1n
        have K2n := Lib.hid (K2.out.below b1 K2.out.lt)
        clear K2
        have K2 := K2n
        clear K2n
        have K3n := Lib.hid (K3.out.below b1 K3.out.lt)
        clear K3
        have K3 := K3n
        clear K3n
        have K4n := Lib.hid (K4.out.below b1 K4.out.lt)
        clear K4
        have K4 := K4n
        clear K4n
        have HBn := Lib.hid (HB.out.trans (b1.mono HB.out.size))
        clear HB
        have HB := HBn
        clear HBn
        clear b1 HM1 hS
        have hS := (And.intro K1.out (And.intro K2.out (And.intro K3.out (And.intro K4.out HB.out))))
        refine takeCE (i := 4) (some 32) 12 #[.agg (heC h)] (R := fun v w' => HelV W9 h H v w') rfl rfl (by kernel_rfl) (by rfl) (by go_simp) (hello_v h H W9 (HRH.out.below HB.out) HMH.out) (fun v w' h => by obtain ⟨B2, d2, H2, rfl, hr1, hs1, hb1⟩ := h; exact ⟨hS.1.below hb1 hS.1.lt, hS.2.1.below hb1 hS.2.1.lt, hS.2.2.1.below hb1 hS.2.2.1.lt, hS.2.2.2.1.below hb1 hS.2.2.2.1.lt, hS.2.2.2.2.trans (hb1.mono hS.2.2.2.2.size)⟩) ?_
        intro v W10 h hS2
        obtain ⟨B2, d2, H2, rfl, hr1, hs1, hb1⟩ := h
        simp only [Act.put, List.setIfInBounds_toArray, List.set_cons_zero, List.set_cons_succ]
        have HXLn := Lib.hid (HXL.out.below hb1)
        clear HXL
        have HXL := HXLn
        clear HXLn
        have K5n := Lib.hid (K5.out.below hb1 K5.out.lt)
        clear K5
        have K5 := K5n
        clear K5n
        clear K1
        clear K2
        clear K3
        clear K4
        clear HB
        clear hS
        have hS := hS2
        clear hS2
        have K1 := Lib.hid hS.1
        have K2 := Lib.hid hS.2.1
        have K3 := Lib.hid hS.2.2.1
        have K4 := Lib.hid hS.2.2.2.1
        have HB := Lib.hid hS.2.2.2.2
        have HXH := Lib.hid hr1
        have HSH := Lib.hid hs1
        clear hr1 hs1 hb1
        refine takeC (i := 6) (some 34) 13 #[.agg (loC ⟨l.s, l.nu, l.lv, A2, l.m, c2⟩), .agg (ajC R1.1), .agg (heC ⟨h.s, h.nu, h.lv, h.ho, B2, h.m, d2, h.st, h.nm, h.th, h.tn⟩), .int .i64 now] (.tuple #[.agg (ajC R2.1), .int .i64 R2.2]) (R := fun w' => Below W10.heap.size W10 w') rfl rfl (by kernel_rfl) (by rfl) (by go_simp) (step_law l R1.1 h now L H L2 H2 A2 B2 c2 d2 _ HYL.out HYA2.out HYH.out HYT.out HXL.out HXH.out (by have := HML.out; omega) (by have := HMH.out; omega) HSL.out HSH.out R2 HR2.out) (fun w' hb => ⟨hS.1.below hb hS.1.lt, hS.2.1.below hb hS.2.1.lt, hS.2.2.1.below hb hS.2.2.1.lt, hS.2.2.2.1.below hb hS.2.2.2.1.lt, hS.2.2.2.2.trans (hb.mono hS.2.2.2.2.size)⟩) ?_
        intro W11 hb1 hS2
        simp only [Act.put, List.setIfInBounds_toArray, List.set_cons_zero, List.set_cons_succ]
        have HXLn := Lib.hid (HXL.out.below hb1)
        clear HXL
        have HXL := HXLn
        clear HXLn
        have HXHn := Lib.hid (HXH.out.below hb1)
        clear HXH
        have HXH := HXHn
        clear HXHn
        have K5n := Lib.hid (K5.out.below hb1 K5.out.lt)
        clear K5
        have K5 := K5n
        clear K5n
        clear K1
        clear K2
        clear K3
        clear K4
        clear HB
        clear hS
        have hS := hS2
        clear hS2
        have K1 := Lib.hid hS.1
        have K2 := Lib.hid hS.2.1
        have K3 := Lib.hid hS.2.2.1
        have K4 := Lib.hid hS.2.2.2.1
        have HB := Lib.hid hS.2.2.2.2
        clear HXL HXH HSL HSH
        clear hb1
        refine takeY (i := 7) (some 27) (v := .tuple #[.agg (ajC R2.1), .int .i64 R2.2]) rfl rfl (by kernel_rfl) (by kernel_rfl) (by kernel_rfl) (fun _ _ _ h => h) (by rfl) (fun w' hS => by go_simp) hS ?_
        simp only [Act.put, List.setIfInBounds_toArray, List.set_cons_zero, List.set_cons_succ]
        refine takeY (i := 8) (some 35) (v := .agg (ajC R2.1)) rfl rfl (by kernel_rfl) (by kernel_rfl) (by kernel_rfl) (fun _ _ _ h => h) (by rfl) (fun w' hS => by go_simp) hS ?_
        simp only [Act.put, List.setIfInBounds_toArray, List.set_cons_zero, List.set_cons_succ]
        refine takeY (i := 9) (some 36) (v := .int .i64 R2.2) rfl rfl (by kernel_rfl) (by kernel_rfl) (by kernel_rfl) (fun _ _ _ h => h) (by rfl) (fun w' hS => by go_simp) hS ?_
        simp only [Act.put, List.setIfInBounds_toArray, List.set_cons_zero, List.set_cons_succ]
        refine takeSt (i := 11) 36 (.tmp 11) (.tmp 35) M1 0 (.agg (ajC R2.1)) (ajC R2.1) (ajC R2.1) rfl rfl (by kernel_rfl) (by rfl) rfl rfl rfl rfl info_ajP (ajC_one _) K5.out (Nat.le_of_ble_eq_true rfl) (by kernel_rfl) ?_
        intro W12 q1
        refine ⟨⟨K1.out.far q1 (by omega), K2.out.far q1 (by omega), K3.out.far q1 (by omega), K4.out.far q1 (by omega), HB.out.trans (q1.2.1 _ (by omega))⟩, ?_⟩
        simp only [Act.put, List.setIfInBounds_toArray, List.set_cons_zero, List.set_cons_succ]
        have K5n : Hid (Blk 36 W12 M1 (ajC R2.1)) := Lib.hid q1.1
        clear K5
        have K5 := K5n
        clear K5n
        have K1n := Lib.hid (K1.out.far q1 (by omega))
        clear K1
        have K1 := K1n
        clear K1n
        have K2n := Lib.hid (K2.out.far q1 (by omega))
        clear K2
        have K2 := K2n
        clear K2n
        have K3n := Lib.hid (K3.out.far q1 (by omega))
        clear K3
        have K3 := K3n
        clear K3n
        have K4n := Lib.hid (K4.out.far q1 (by omega))
        clear K4
        have K4 := K4n
        clear K4n
        have HBn := Lib.hid (HB.out.trans (q1.2.1 _ (by omega)))
        clear HB
        have HB := HBn
        clear HBn
        clear q1 hS
        have hS := (And.intro K1.out (And.intro K2.out (And.intro K3.out (And.intro K4.out HB.out))))
        refine takeY (i := 12) (some 12) (v := .int .i64 R2.2) rfl rfl (by kernel_rfl) (by kernel_rfl) (by kernel_rfl) (fun _ _ _ h => h) (by rfl) (fun w' hS => by go_simp) hS ?_
        simp only [Act.put, List.setIfInBounds_toArray, List.set_cons_zero, List.set_cons_succ]
        clear hS
        refine wpAnyH_done (by kernel_rfl) ?_ _
        go_wp2_with fail
        go_meet
        case rel => exact ⟨M1, rfl, rfl, K5, lt_N1_M1, K1, lt_N2_M1, K2, lt_N3_M1, K3, lt_NK4_M1, K4, le_HB_M1, HB⟩
    · skip
      intro W8 k1 b1 s1
      refine ⟨⟨hS.1.below b1 hS.1.lt, hS.2.1.below b1 hS.2.1.lt, hS.2.2.1.below b1 hS.2.2.1.lt, hS.2.2.2.1.below b1 hS.2.2.2.1.lt, hS.2.2.2.2.trans (b1.mono hS.2.2.2.2.size)⟩, ?_⟩
      simp only [Act.put, List.setIfInBounds_toArray, List.set_cons_zero, List.set_cons_succ]
      have K5 := Lib.hid k1
      clear k1
      have lt_N1_M0 : N1 < M0 := by rw [← HM0.out]; exact K1.out.lt
      have lt_N2_M0 : N2 < M0 := by rw [← HM0.out]; exact K2.out.lt
      have lt_N3_M0 : N3 < M0 := by rw [← HM0.out]; exact K3.out.lt
      have lt_NK4_M0 : NK4 < M0 := by rw [← HM0.out]; exact K4.out.lt
      have le_HB_M0 : w.heap.size ≤ M0 := by rw [← HM0.out]; exact HB.out.size
      have K1n := Lib.hid (K1.out.below b1 K1.out.lt)
      clear K1
      have K1 := K1n
      clear K1n
      have K2n := Lib.hid (K2.out.below b1 K2.out.lt)
      clear K2
      have K2 := K2n
      clear K2n
      have K3n := Lib.hid (K3.out.below b1 K3.out.lt)
      clear K3
      have K3 := K3n
      clear K3n
      have K4n := Lib.hid (K4.out.below b1 K4.out.lt)
      clear K4
      have K4 := K4n
      clear K4n
      have HBn := Lib.hid (HB.out.trans (b1.mono HB.out.size))
      clear HB
      have HB := HBn
      clear HBn
      clear b1 HM0 hS
      have hS := (And.intro K1.out (And.intro K2.out (And.intro K3.out (And.intro K4.out HB.out))))
      refine takeCE (i := 1) (some 29) 11 #[.agg (loC l)] (R := fun v w' => LocV W8 l L v w') rfl rfl (by kernel_rfl) (by rfl) (by go_simp) (local_v l L W8 (HRL.out.below HB.out) HML.out) (fun v w' h => by obtain ⟨A2, c2, L2, rfl, hr1, hs1, hb1⟩ := h; exact ⟨hS.1.below hb1 hS.1.lt, hS.2.1.below hb1 hS.2.1.lt, hS.2.2.1.below hb1 hS.2.2.1.lt, hS.2.2.2.1.below hb1 hS.2.2.2.1.lt, hS.2.2.2.2.trans (hb1.mono hS.2.2.2.2.size)⟩) ?_
      intro v W9 h hS2
      obtain ⟨A2, c2, L2, rfl, hr1, hs1, hb1⟩ := h
      simp only [Act.put, List.setIfInBounds_toArray, List.set_cons_zero, List.set_cons_succ]
      have K5n := Lib.hid (K5.out.below hb1 K5.out.lt)
      clear K5
      have K5 := K5n
      clear K5n
      clear K1
      clear K2
      clear K3
      clear K4
      clear HB
      clear hS
      have hS := hS2
      clear hS2
      have K1 := Lib.hid hS.1
      have K2 := Lib.hid hS.2.1
      have K3 := Lib.hid hS.2.2.1
      have K4 := Lib.hid hS.2.2.2.1
      have HB := Lib.hid hS.2.2.2.2
      have HXL := Lib.hid hr1
      have HSL := Lib.hid hs1
      clear hr1 hs1 hb1
      refine takeCE (i := 4) (some 32) 12 #[.agg (heC h)] (R := fun v w' => HelV W9 h H v w') rfl rfl (by kernel_rfl) (by rfl) (by go_simp) (hello_v h H W9 (HRH.out.below HB.out) HMH.out) (fun v w' h => by obtain ⟨B2, d2, H2, rfl, hr1, hs1, hb1⟩ := h; exact ⟨hS.1.below hb1 hS.1.lt, hS.2.1.below hb1 hS.2.1.lt, hS.2.2.1.below hb1 hS.2.2.1.lt, hS.2.2.2.1.below hb1 hS.2.2.2.1.lt, hS.2.2.2.2.trans (hb1.mono hS.2.2.2.2.size)⟩) ?_
      intro v W10 h hS2
      obtain ⟨B2, d2, H2, rfl, hr1, hs1, hb1⟩ := h
      simp only [Act.put, List.setIfInBounds_toArray, List.set_cons_zero, List.set_cons_succ]
      have HXLn := Lib.hid (HXL.out.below hb1)
      clear HXL
      have HXL := HXLn
      clear HXLn
      have K5n := Lib.hid (K5.out.below hb1 K5.out.lt)
      clear K5
      have K5 := K5n
      clear K5n
      clear K1
      clear K2
      clear K3
      clear K4
      clear HB
      clear hS
      have hS := hS2
      clear hS2
      have K1 := Lib.hid hS.1
      have K2 := Lib.hid hS.2.1
      have K3 := Lib.hid hS.2.2.1
      have K4 := Lib.hid hS.2.2.2.1
      have HB := Lib.hid hS.2.2.2.2
      have HXH := Lib.hid hr1
      have HSH := Lib.hid hs1
      clear hr1 hs1 hb1
      refine takeC (i := 6) (some 34) 13 #[.agg (loC ⟨l.s, l.nu, l.lv, A2, l.m, c2⟩), .agg (ajC R1.1), .agg (heC ⟨h.s, h.nu, h.lv, h.ho, B2, h.m, d2, h.st, h.nm, h.th, h.tn⟩), .int .i64 now] (.tuple #[.agg (ajC R2.1), .int .i64 R2.2]) (R := fun w' => Below W10.heap.size W10 w') rfl rfl (by kernel_rfl) (by rfl) (by go_simp) (step_law l R1.1 h now L H L2 H2 A2 B2 c2 d2 _ HYL.out HYA2.out HYH.out HYT.out HXL.out HXH.out (by have := HML.out; omega) (by have := HMH.out; omega) HSL.out HSH.out R2 HR2.out) (fun w' hb => ⟨hS.1.below hb hS.1.lt, hS.2.1.below hb hS.2.1.lt, hS.2.2.1.below hb hS.2.2.1.lt, hS.2.2.2.1.below hb hS.2.2.2.1.lt, hS.2.2.2.2.trans (hb.mono hS.2.2.2.2.size)⟩) ?_
      intro W11 hb1 hS2
      simp only [Act.put, List.setIfInBounds_toArray, List.set_cons_zero, List.set_cons_succ]
      have HXLn := Lib.hid (HXL.out.below hb1)
      clear HXL
      have HXL := HXLn
      clear HXLn
      have HXHn := Lib.hid (HXH.out.below hb1)
      clear HXH
      have HXH := HXHn
      clear HXHn
      have K5n := Lib.hid (K5.out.below hb1 K5.out.lt)
      clear K5
      have K5 := K5n
      clear K5n
      clear K1
      clear K2
      clear K3
      clear K4
      clear HB
      clear hS
      have hS := hS2
      clear hS2
      have K1 := Lib.hid hS.1
      have K2 := Lib.hid hS.2.1
      have K3 := Lib.hid hS.2.2.1
      have K4 := Lib.hid hS.2.2.2.1
      have HB := Lib.hid hS.2.2.2.2
      clear HXL HXH HSL HSH
      clear hb1
      refine takeY (i := 7) (some 27) (v := .tuple #[.agg (ajC R2.1), .int .i64 R2.2]) rfl rfl (by kernel_rfl) (by kernel_rfl) (by kernel_rfl) (fun _ _ _ h => h) (by rfl) (fun w' hS => by go_simp) hS ?_
      simp only [Act.put, List.setIfInBounds_toArray, List.set_cons_zero, List.set_cons_succ]
      refine takeY (i := 8) (some 35) (v := .agg (ajC R2.1)) rfl rfl (by kernel_rfl) (by kernel_rfl) (by kernel_rfl) (fun _ _ _ h => h) (by rfl) (fun w' hS => by go_simp) hS ?_
      simp only [Act.put, List.setIfInBounds_toArray, List.set_cons_zero, List.set_cons_succ]
      refine takeY (i := 9) (some 36) (v := .int .i64 R2.2) rfl rfl (by kernel_rfl) (by kernel_rfl) (by kernel_rfl) (fun _ _ _ h => h) (by rfl) (fun w' hS => by go_simp) hS ?_
      simp only [Act.put, List.setIfInBounds_toArray, List.set_cons_zero, List.set_cons_succ]
      refine takeSt (i := 11) 36 (.tmp 11) (.tmp 35) M0 0 (.agg (ajC R2.1)) (ajC R2.1) (ajC R2.1) rfl rfl (by kernel_rfl) (by rfl) rfl rfl rfl rfl info_ajP (ajC_one _) K5.out (Nat.le_of_ble_eq_true rfl) (by kernel_rfl) ?_
      intro W12 q1
      refine ⟨⟨K1.out.far q1 (by omega), K2.out.far q1 (by omega), K3.out.far q1 (by omega), K4.out.far q1 (by omega), HB.out.trans (q1.2.1 _ (by omega))⟩, ?_⟩
      simp only [Act.put, List.setIfInBounds_toArray, List.set_cons_zero, List.set_cons_succ]
      have K5n : Hid (Blk 36 W12 M0 (ajC R2.1)) := Lib.hid q1.1
      clear K5
      have K5 := K5n
      clear K5n
      have K1n := Lib.hid (K1.out.far q1 (by omega))
      clear K1
      have K1 := K1n
      clear K1n
      have K2n := Lib.hid (K2.out.far q1 (by omega))
      clear K2
      have K2 := K2n
      clear K2n
      have K3n := Lib.hid (K3.out.far q1 (by omega))
      clear K3
      have K3 := K3n
      clear K3n
      have K4n := Lib.hid (K4.out.far q1 (by omega))
      clear K4
      have K4 := K4n
      clear K4n
      have HBn := Lib.hid (HB.out.trans (q1.2.1 _ (by omega)))
      clear HB
      have HB := HBn
      clear HBn
      clear q1 hS
      have hS := (And.intro K1.out (And.intro K2.out (And.intro K3.out (And.intro K4.out HB.out))))
      refine takeY (i := 12) (some 12) (v := .int .i64 R2.2) rfl rfl (by kernel_rfl) (by kernel_rfl) (by kernel_rfl) (fun _ _ _ h => h) (by rfl) (fun w' hS => by go_simp) hS ?_
      simp only [Act.put, List.setIfInBounds_toArray, List.set_cons_zero, List.set_cons_succ]
      clear hS
      refine wpAnyH_done (by kernel_rfl) ?_ _
      go_wp2_with fail
      go_meet
      case rel => exact ⟨M0, rfl, rfl, K5, lt_N1_M0, K1, lt_N2_M0, K2, lt_N3_M0, K3, lt_NK4_M0, K4, le_HB_M0, HB⟩
  case rest =>
  clear K1
  clear K2
  clear K3
  clear K4
  clear HB
  obtain ⟨NK5, rfl, rfl, K5, lt_N1_NK5, K1, lt_N2_NK5, K2, lt_N3_NK5, K3, lt_NK4_NK5, K4, le_HB_NK5, HB⟩ := hcut
  go_wp2_with fail
  go_cut [13, 14] (fun s1 s2 wc => ∃ N, s1 = .pointer (some ⟨N, 0, none⟩) ∧ s2 = .int .i64 R3.2 ∧ Hid (Blk 36 wc N (ajC R3.1)) ∧ N1 < N ∧ Hid (Blk 26 wc N1 (loC l)) ∧ N2 < N ∧ Hid (Blk 28 wc N2 (ajC a)) ∧ N3 < N ∧ Hid (Blk 30 wc N3 (heC h)) ∧ NK4 < N ∧ Hid (Blk 36 wc NK4 (ajC R1.1)) ∧ NK5 < N ∧ Hid (Blk 36 wc NK5 (ajC R2.1)) ∧ w.heap.size ≤ N ∧ Hid (Below w.heap.size w wc))
  case first =>
    refine wp_region_held_drew (S := fun w' => Blk 26 w' N1 (loC l) ∧ Blk 28 w' N2 (ajC a) ∧ Blk 30 w' N3 (heC h) ∧ Blk 36 w' NK4 (ajC R1.1) ∧ Blk 36 w' NK5 (ajC R2.1) ∧ Below w.heap.size w w') (by kernel_rfl) ⟨K1.out, K2.out, K3.out, K4.out, K5.out, HB.out.drew⟩ (fun hS => ?_)
    generalize hW7 : wc.drew = W7 at hS ⊢
    clear hW7
    clear K1
    clear K2
    clear K3
    clear K4
    clear K5
    clear HB
    have K1 := Lib.hid hS.1
    have K2 := Lib.hid hS.2.1
    have K3 := Lib.hid hS.2.2.1
    have K4 := Lib.hid hS.2.2.2.1
    have K5 := Lib.hid hS.2.2.2.2.1
    have HB := Lib.hid hS.2.2.2.2.2
    refine takeL (i := 0) (some 38) 26 (.tmp 4) N1 0 (loC l) _ rfl rfl (by kernel_rfl) (by kernel_rfl) (by kernel_rfl) (fun _ _ _ h => h) (by rfl) rfl rfl (fun w' hS => hS.1.all) Try.underlying26 rfl info_loR hS ?_
    simp only [Act.put, List.setIfInBounds_toArray, List.set_cons_zero, List.set_cons_succ]
    refine takeL (i := 2) (some 40) 36 (.tmp 11) NK5 0 (ajC R2.1) _ rfl rfl (by kernel_rfl) (by kernel_rfl) (by kernel_rfl) (fun _ _ _ h => h) (by rfl) rfl rfl (fun w' hS => hS.2.2.2.2.1.all) Try.underlying36 rfl info_ajP hS ?_
    simp only [Act.put, List.setIfInBounds_toArray, List.set_cons_zero, List.set_cons_succ]
    refine takeL (i := 3) (some 41) 30 (.tmp 6) N3 0 (heC h) _ rfl rfl (by kernel_rfl) (by kernel_rfl) (by kernel_rfl) (fun _ _ _ h => h) (by rfl) rfl rfl (fun w' hS => hS.2.2.1.all) Try.underlying30 rfl info_heR hS ?_
    simp only [Act.put, List.setIfInBounds_toArray, List.set_cons_zero, List.set_cons_succ]
    refine takeY (i := 5) (some 43) (v := .int .i64 now) rfl rfl (by kernel_rfl) (by kernel_rfl) (by kernel_rfl) (fun _ _ _ h => h) (by rfl) (fun w' hS => by go_simp) hS ?_
    simp only [Act.put, List.setIfInBounds_toArray, List.set_cons_zero, List.set_cons_succ]
    obtain ⟨M0, hM0⟩ : ∃ N, W7.heap.size = N := ⟨_, rfl⟩
    have HM0 := Lib.hid hM0
    clear hM0
    refine wpAnyH_ready (show Region.ready _ _ _ = [1, 10] from by kernel_rfl) (by simp) (consCE (i := 1) (some 39) 11 #[.agg (loC l)] (R := fun v w' => LocV W7 l L v w') rfl rfl (by rfl) (by go_simp) (local_v l L W7 (HRL.out.below HB.out) HML.out) (fun v w' h => by obtain ⟨A3, c3, L3, rfl, hr1, hs1, hb1⟩ := h; exact ⟨hS.1.below hb1 hS.1.lt, hS.2.1.below hb1 hS.2.1.lt, hS.2.2.1.below hb1 hS.2.2.1.lt, hS.2.2.2.1.below hb1 hS.2.2.2.1.lt, hS.2.2.2.2.1.below hb1 hS.2.2.2.2.1.lt, hS.2.2.2.2.2.trans (hb1.mono hS.2.2.2.2.2.size)⟩) ?_ (consMk (i := 10) (some 13) 36 (ajC aj0) rfl rfl (by rfl) rfl zero_ajP M0 HM0.out ?_ AllReadyH.nil))
    · skip
      clear HM0
      intro v W8 h hS2
      obtain ⟨A3, c3, L3, rfl, hr1, hs1, hb1⟩ := h
      simp only [Act.put, List.setIfInBounds_toArray, List.set_cons_zero, List.set_cons_succ]
      clear K1
      clear K2
      clear K3
      clear K4
      clear K5
      clear HB
      clear hS
      have hS := hS2
      clear hS2
      have K1 := Lib.hid hS.1
      have K2 := Lib.hid hS.2.1
      have K3 := Lib.hid hS.2.2.1
      have K4 := Lib.hid hS.2.2.2.1
      have K5 := Lib.hid hS.2.2.2.2.1
      have HB := Lib.hid hS.2.2.2.2.2
      have HXL := Lib.hid hr1
      have HSL := Lib.hid hs1
      clear hr1 hs1 hb1
      obtain ⟨M1, hM1⟩ : ∃ N, W8.heap.size = N := ⟨_, rfl⟩
      have HM1 := Lib.hid hM1
      clear hM1
      refine wpAnyH_ready (show Region.ready _ _ _ = [4, 10] from by kernel_rfl) (by simp) (consCE (i := 4) (some 42) 12 #[.agg (heC h)] (R := fun v w' => HelV W8 h H v w') rfl rfl (by rfl) (by go_simp) (hello_v h H W8 (HRH.out.below HB.out) HMH.out) (fun v w' h => by obtain ⟨B3, d3, H3, rfl, hr1, hs1, hb1⟩ := h; exact ⟨hS.1.below hb1 hS.1.lt, hS.2.1.below hb1 hS.2.1.lt, hS.2.2.1.below hb1 hS.2.2.1.lt, hS.2.2.2.1.below hb1 hS.2.2.2.1.lt, hS.2.2.2.2.1.below hb1 hS.2.2.2.2.1.lt, hS.2.2.2.2.2.trans (hb1.mono hS.2.2.2.2.2.size)⟩) ?_ (consMk (i := 10) (some 13) 36 (ajC aj0) rfl rfl (by rfl) rfl zero_ajP M1 HM1.out ?_ AllReadyH.nil))
      · skip
        clear HM1
        intro v W9 h hS2
        obtain ⟨B3, d3, H3, rfl, hr1, hs1, hb1⟩ := h
        simp only [Act.put, List.setIfInBounds_toArray, List.set_cons_zero, List.set_cons_succ]
        have HXLn := Lib.hid (HXL.out.below hb1)
        clear HXL
        have HXL := HXLn
        clear HXLn
        clear K1
        clear K2
        clear K3
        clear K4
        clear K5
        clear HB
        clear hS
        have hS := hS2
        clear hS2
        have K1 := Lib.hid hS.1
        have K2 := Lib.hid hS.2.1
        have K3 := Lib.hid hS.2.2.1
        have K4 := Lib.hid hS.2.2.2.1
        have K5 := Lib.hid hS.2.2.2.2.1
        have HB := Lib.hid hS.2.2.2.2.2
        have HXH := Lib.hid hr1
        have HSH := Lib.hid hs1
        clear hr1 hs1 hb1
        obtain ⟨M2, hM2⟩ : ∃ N, W9.heap.size = N := ⟨_, rfl⟩
        have HM2 := Lib.hid hM2
        clear hM2
        refine wpAnyH_ready (show Region.ready _ _ _ = [6, 10] from by kernel_rfl) (by simp) (consC (i := 6) (some 44) 13 #[.agg (loC ⟨l.s, l.nu, l.lv, A3, l.m, c3⟩), .agg (ajC R2.1), .agg (heC ⟨h.s, h.nu, h.lv, h.ho, B3, h.m, d3, h.st, h.nm, h.th, h.tn⟩), .int .i64 now] (.tuple #[.agg (ajC R3.1), .int .i64 R3.2]) (R := fun w' => Below W9.heap.size W9 w') rfl rfl (by rfl) (by go_simp) (step_law l R2.1 h now L H L3 H3 A3 B3 c3 d3 _ HYL.out HYA3.out HYH.out HYT.out HXL.out HXH.out (by have := HML.out; omega) (by have := HMH.out; omega) HSL.out HSH.out R3 HR3.out) (fun w' hb => ⟨hS.1.below hb hS.1.lt, hS.2.1.below hb hS.2.1.lt, hS.2.2.1.below hb hS.2.2.1.lt, hS.2.2.2.1.below hb hS.2.2.2.1.lt, hS.2.2.2.2.1.below hb hS.2.2.2.2.1.lt, hS.2.2.2.2.2.trans (hb.mono hS.2.2.2.2.2.size)⟩) ?_ (consMk (i := 10) (some 13) 36 (ajC aj0) rfl rfl (by rfl) rfl zero_ajP M2 HM2.out ?_ AllReadyH.nil))
        · skip
          clear HM2
          intro W10 hb1 hS2
          simp only [Act.put, List.setIfInBounds_toArray, List.set_cons_zero, List.set_cons_succ]
          have HXLn := Lib.hid (HXL.out.below hb1)
          clear HXL
          have HXL := HXLn
          clear HXLn
          have HXHn := Lib.hid (HXH.out.below hb1)
          clear HXH
          have HXH := HXHn
          clear HXHn
          clear K1
          clear K2
          clear K3
          clear K4
          clear K5
          clear HB
          clear hS
          have hS := hS2
          clear hS2
          have K1 := Lib.hid hS.1
          have K2 := Lib.hid hS.2.1
          have K3 := Lib.hid hS.2.2.1
          have K4 := Lib.hid hS.2.2.2.1
          have K5 := Lib.hid hS.2.2.2.2.1
          have HB := Lib.hid hS.2.2.2.2.2
          clear HXL HXH HSL HSH
          clear hb1
          obtain ⟨M3, hM3⟩ : ∃ N, W10.heap.size = N := ⟨_, rfl⟩
          have HM3 := Lib.hid hM3
          clear hM3
          refine takeY (i := 7) (some 37) (v := .tuple #[.agg (ajC R3.1), .int .i64 R3.2]) rfl rfl (by kernel_rfl) (by kernel_rfl) (by kernel_rfl) (fun _ _ _ h => h) (by rfl) (fun w' hS => by go_simp) hS ?_
          simp only [Act.put, List.setIfInBounds_toArray, List.set_cons_zero, List.set_cons_succ]
          refine takeY (i := 8) (some 45) (v := .agg (ajC R3.1)) rfl rfl (by kernel_rfl) (by kernel_rfl) (by kernel_rfl) (fun _ _ _ h => h) (by rfl) (fun w' hS => by go_simp) hS ?_
          simp only [Act.put, List.setIfInBounds_toArray, List.set_cons_zero, List.set_cons_succ]
          refine takeY (i := 9) (some 46) (v := .int .i64 R3.2) rfl rfl (by kernel_rfl) (by kernel_rfl) (by kernel_rfl) (fun _ _ _ h => h) (by rfl) (fun w' hS => by go_simp) hS ?_
          simp only [Act.put, List.setIfInBounds_toArray, List.set_cons_zero, List.set_cons_succ]
          refine takeMk (i := 10) (some 13) 36 (ajC aj0) rfl rfl (by kernel_rfl) (by rfl) rfl zero_ajP M3 HM3.out ?_
          intro W11 k1 b1 s1
          refine ⟨⟨hS.1.below b1 hS.1.lt, hS.2.1.below b1 hS.2.1.lt, hS.2.2.1.below b1 hS.2.2.1.lt, hS.2.2.2.1.below b1 hS.2.2.2.1.lt, hS.2.2.2.2.1.below b1 hS.2.2.2.2.1.lt, hS.2.2.2.2.2.trans (b1.mono hS.2.2.2.2.2.size)⟩, ?_⟩
          simp only [Act.put, List.setIfInBounds_toArray, List.set_cons_zero, List.set_cons_succ]
          have K6 := Lib.hid k1
          clear k1
          have lt_N1_M3 : N1 < M3 := by rw [← HM3.out]; exact K1.out.lt
          have lt_N2_M3 : N2 < M3 := by rw [← HM3.out]; exact K2.out.lt
          have lt_N3_M3 : N3 < M3 := by rw [← HM3.out]; exact K3.out.lt
          have lt_NK4_M3 : NK4 < M3 := by rw [← HM3.out]; exact K4.out.lt
          have lt_NK5_M3 : NK5 < M3 := by rw [← HM3.out]; exact K5.out.lt
          have le_HB_M3 : w.heap.size ≤ M3 := by rw [← HM3.out]; exact HB.out.size
          have K1n := Lib.hid (K1.out.below b1 K1.out.lt)
          clear K1
          have K1 := K1n
          clear K1n
          have K2n := Lib.hid (K2.out.below b1 K2.out.lt)
          clear K2
          have K2 := K2n
          clear K2n
          have K3n := Lib.hid (K3.out.below b1 K3.out.lt)
          clear K3
          have K3 := K3n
          clear K3n
          have K4n := Lib.hid (K4.out.below b1 K4.out.lt)
          clear K4
          have K4 := K4n
          clear K4n
          have K5n := Lib.hid (K5.out.below b1 K5.out.lt)
          clear K5
          have K5 := K5n
          clear K5n
          have HBn := Lib.hid (HB.out.trans (b1.mono HB.out.size))
          clear HB
          have HB := HBn
          clear HBn
          clear b1 HM3 hS
          have hS := (And.intro K1.out (And.intro K2.out (And.intro K3.out (And.intro K4.out (And.intro K5.out HB.out)))))
          refine takeSt (i := 11) 36 (.tmp 13) (.tmp 45) M3 0 (.agg (ajC R3.1)) (ajC R3.1) (ajC R3.1) rfl rfl (by kernel_rfl) (by rfl) rfl rfl rfl rfl info_ajP (ajC_one _) K6.out (Nat.le_of_ble_eq_true rfl) (by kernel_rfl) ?_
          intro W12 q1
          refine ⟨⟨K1.out.far q1 (by omega), K2.out.far q1 (by omega), K3.out.far q1 (by omega), K4.out.far q1 (by omega), K5.out.far q1 (by omega), HB.out.trans (q1.2.1 _ (by omega))⟩, ?_⟩
          simp only [Act.put, List.setIfInBounds_toArray, List.set_cons_zero, List.set_cons_succ]
          have K6n : Hid (Blk 36 W12 M3 (ajC R3.1)) := Lib.hid q1.1
          clear K6
          have K6 := K6n
          clear K6n
          have K1n := Lib.hid (K1.out.far q1 (by omega))
          clear K1
          have K1 := K1n
          clear K1n
          have K2n := Lib.hid (K2.out.far q1 (by omega))
          clear K2
          have K2 := K2n
          clear K2n
          have K3n := Lib.hid (K3.out.far q1 (by omega))
          clear K3
          have K3 := K3n
          clear K3n
          have K4n := Lib.hid (K4.out.far q1 (by omega))
          clear K4
          have K4 := K4n
          clear K4n
          have K5n := Lib.hid (K5.out.far q1 (by omega))
          clear K5
          have K5 := K5n
          clear K5n
          have HBn := Lib.hid (HB.out.trans (q1.2.1 _ (by omega)))
          clear HB
          have HB := HBn
          clear HBn
          clear q1 hS
          have hS := (And.intro K1.out (And.intro K2.out (And.intro K3.out (And.intro K4.out (And.intro K5.out HB.out)))))
          refine takeY (i := 12) (some 14) (v := .int .i64 R3.2) rfl rfl (by kernel_rfl) (by kernel_rfl) (by kernel_rfl) (fun _ _ _ h => h) (by rfl) (fun w' hS => by go_simp) hS ?_
          simp only [Act.put, List.setIfInBounds_toArray, List.set_cons_zero, List.set_cons_succ]
          clear hS
          refine wpAnyH_done (by kernel_rfl) ?_ _
          go_wp2_with fail
          go_meet
          case rel => exact ⟨M3, rfl, rfl, K6, lt_N1_M3, K1, lt_N2_M3, K2, lt_N3_M3, K3, lt_NK4_M3, K4, lt_NK5_M3, K5, le_HB_M3, HB⟩
        · skip
          intro W11 k1 b1 s1
          refine ⟨⟨hS.1.below b1 hS.1.lt, hS.2.1.below b1 hS.2.1.lt, hS.2.2.1.below b1 hS.2.2.1.lt, hS.2.2.2.1.below b1 hS.2.2.2.1.lt, hS.2.2.2.2.1.below b1 hS.2.2.2.2.1.lt, hS.2.2.2.2.2.trans (b1.mono hS.2.2.2.2.2.size)⟩, ?_⟩
          simp only [Act.put, List.setIfInBounds_toArray, List.set_cons_zero, List.set_cons_succ]
          have K6 := Lib.hid k1
          clear k1
          have lt_N1_M2 : N1 < M2 := by rw [← HM2.out]; exact K1.out.lt
          have lt_N2_M2 : N2 < M2 := by rw [← HM2.out]; exact K2.out.lt
          have lt_N3_M2 : N3 < M2 := by rw [← HM2.out]; exact K3.out.lt
          have lt_NK4_M2 : NK4 < M2 := by rw [← HM2.out]; exact K4.out.lt
          have lt_NK5_M2 : NK5 < M2 := by rw [← HM2.out]; exact K5.out.lt
          have le_HB_M2 : w.heap.size ≤ M2 := by rw [← HM2.out]; exact HB.out.size
          have HXLn := Lib.hid (HXL.out.below b1)
          clear HXL
          have HXL := HXLn
          clear HXLn
          have HXHn := Lib.hid (HXH.out.below b1)
          clear HXH
          have HXH := HXHn
          clear HXHn
          have K1n := Lib.hid (K1.out.below b1 K1.out.lt)
          clear K1
          have K1 := K1n
          clear K1n
          have K2n := Lib.hid (K2.out.below b1 K2.out.lt)
          clear K2
          have K2 := K2n
          clear K2n
          have K3n := Lib.hid (K3.out.below b1 K3.out.lt)
          clear K3
          have K3 := K3n
          clear K3n
          have K4n := Lib.hid (K4.out.below b1 K4.out.lt)
          clear K4
          have K4 := K4n
          clear K4n
          have K5n := Lib.hid (K5.out.below b1 K5.out.lt)
          clear K5
          have K5 := K5n
          clear K5n
          have HBn := Lib.hid (HB.out.trans (b1.mono HB.out.size))
          clear HB
          have HB := HBn
          clear HBn
          clear b1 HM2 hS
          have hS := (And.intro K1.out (And.intro K2.out (And.intro K3.out (And.intro K4.out (And.intro K5.out HB.out)))))
          refine takeC (i := 6) (some 44) 13 #[.agg (loC ⟨l.s, l.nu, l.lv, A3, l.m, c3⟩), .agg (ajC R2.1), .agg (heC ⟨h.s, h.nu, h.lv, h.ho, B3, h.m, d3, h.st, h.nm, h.th, h.tn⟩), .int .i64 now] (.tuple #[.agg (ajC R3.1), .int .i64 R3.2]) (R := fun w' => Below W11.heap.size W11 w') rfl rfl (by kernel_rfl) (by rfl) (by go_simp) (step_law l R2.1 h now L H L3 H3 A3 B3 c3 d3 _ HYL.out HYA3.out HYH.out HYT.out HXL.out HXH.out (by have := HML.out; omega) (by have := HMH.out; omega) HSL.out HSH.out R3 HR3.out) (fun w' hb => ⟨hS.1.below hb hS.1.lt, hS.2.1.below hb hS.2.1.lt, hS.2.2.1.below hb hS.2.2.1.lt, hS.2.2.2.1.below hb hS.2.2.2.1.lt, hS.2.2.2.2.1.below hb hS.2.2.2.2.1.lt, hS.2.2.2.2.2.trans (hb.mono hS.2.2.2.2.2.size)⟩) ?_
          intro W12 hb1 hS2
          simp only [Act.put, List.setIfInBounds_toArray, List.set_cons_zero, List.set_cons_succ]
          have HXLn := Lib.hid (HXL.out.below hb1)
          clear HXL
          have HXL := HXLn
          clear HXLn
          have HXHn := Lib.hid (HXH.out.below hb1)
          clear HXH
          have HXH := HXHn
          clear HXHn
          have K6n := Lib.hid (K6.out.below hb1 K6.out.lt)
          clear K6
          have K6 := K6n
          clear K6n
          clear K1
          clear K2
          clear K3
          clear K4
          clear K5
          clear HB
          clear hS
          have hS := hS2
          clear hS2
          have K1 := Lib.hid hS.1
          have K2 := Lib.hid hS.2.1
          have K3 := Lib.hid hS.2.2.1
          have K4 := Lib.hid hS.2.2.2.1
          have K5 := Lib.hid hS.2.2.2.2.1
          have HB := Lib.hid hS.2.2.2.2.2
          clear HXL HXH HSL HSH
          clear hb1
          refine takeY (i := 7) (some 37) (v := .tuple #[.agg (ajC R3.1), .int .i64 R3.2]) rfl rfl (by kernel_rfl) (by kernel_rfl) (by kernel_rfl) (fun _ _ _ h => h) (by rfl) (fun w' hS => by go_simp) hS ?_
          simp only [Act.put, List.setIfInBounds_toArray, List.set_cons_zero, List.set_cons_succ]
          refine takeY (i := 8) (some 45) (v := .agg (ajC R3.1)) rfl rfl (by kernel_rfl) (by kernel_rfl) (by kernel_rfl) (fun _ _ _ h => h) (by rfl) (fun w' hS => by go_simp) hS ?_
          simp only [Act.put, List.setIfInBounds_toArray, List.set_cons_zero, List.set_cons_succ]
          refine takeY (i := 9) (some 46) (v := .int .i64 R3.2) rfl rfl (by kernel_rfl) (by kernel_rfl) (by kernel_rfl) (fun _ _ _ h => h) (by rfl) (fun w' hS => by go_simp) hS ?_
          simp only [Act.put, List.setIfInBounds_toArray, List.set_cons_zero, List.set_cons_succ]
          refine takeSt (i := 11) 36 (.tmp 13) (.tmp 45) M2 0 (.agg (ajC R3.1)) (ajC R3.1) (ajC R3.1) rfl rfl (by kernel_rfl) (by rfl) rfl rfl rfl rfl info_ajP (ajC_one _) K6.out (Nat.le_of_ble_eq_true rfl) (by kernel_rfl) ?_
          intro W13 q1
          refine ⟨⟨K1.out.far q1 (by omega), K2.out.far q1 (by omega), K3.out.far q1 (by omega), K4.out.far q1 (by omega), K5.out.far q1 (by omega), HB.out.trans (q1.2.1 _ (by omega))⟩, ?_⟩
          simp only [Act.put, List.setIfInBounds_toArray, List.set_cons_zero, List.set_cons_succ]
          have K6n : Hid (Blk 36 W13 M2 (ajC R3.1)) := Lib.hid q1.1
          clear K6
          have K6 := K6n
          clear K6n
          have K1n := Lib.hid (K1.out.far q1 (by omega))
          clear K1
          have K1 := K1n
          clear K1n
          have K2n := Lib.hid (K2.out.far q1 (by omega))
          clear K2
          have K2 := K2n
          clear K2n
          have K3n := Lib.hid (K3.out.far q1 (by omega))
          clear K3
          have K3 := K3n
          clear K3n
          have K4n := Lib.hid (K4.out.far q1 (by omega))
          clear K4
          have K4 := K4n
          clear K4n
          have K5n := Lib.hid (K5.out.far q1 (by omega))
          clear K5
          have K5 := K5n
          clear K5n
          have HBn := Lib.hid (HB.out.trans (q1.2.1 _ (by omega)))
          clear HB
          have HB := HBn
          clear HBn
          clear q1 hS
          have hS := (And.intro K1.out (And.intro K2.out (And.intro K3.out (And.intro K4.out (And.intro K5.out HB.out)))))
          refine takeY (i := 12) (some 14) (v := .int .i64 R3.2) rfl rfl (by kernel_rfl) (by kernel_rfl) (by kernel_rfl) (fun _ _ _ h => h) (by rfl) (fun w' hS => by go_simp) hS ?_
          simp only [Act.put, List.setIfInBounds_toArray, List.set_cons_zero, List.set_cons_succ]
          clear hS
          refine wpAnyH_done (by kernel_rfl) ?_ _
          go_wp2_with fail
          go_meet
          case rel => exact ⟨M2, rfl, rfl, K6, lt_N1_M2, K1, lt_N2_M2, K2, lt_N3_M2, K3, lt_NK4_M2, K4, lt_NK5_M2, K5, le_HB_M2, HB⟩
      · skip
        intro W10 k1 b1 s1
        refine ⟨⟨hS.1.below b1 hS.1.lt, hS.2.1.below b1 hS.2.1.lt, hS.2.2.1.below b1 hS.2.2.1.lt, hS.2.2.2.1.below b1 hS.2.2.2.1.lt, hS.2.2.2.2.1.below b1 hS.2.2.2.2.1.lt, hS.2.2.2.2.2.trans (b1.mono hS.2.2.2.2.2.size)⟩, ?_⟩
        simp only [Act.put, List.setIfInBounds_toArray, List.set_cons_zero, List.set_cons_succ]
        have K6 := Lib.hid k1
        clear k1
        have lt_N1_M1 : N1 < M1 := by rw [← HM1.out]; exact K1.out.lt
        have lt_N2_M1 : N2 < M1 := by rw [← HM1.out]; exact K2.out.lt
        have lt_N3_M1 : N3 < M1 := by rw [← HM1.out]; exact K3.out.lt
        have lt_NK4_M1 : NK4 < M1 := by rw [← HM1.out]; exact K4.out.lt
        have lt_NK5_M1 : NK5 < M1 := by rw [← HM1.out]; exact K5.out.lt
        have le_HB_M1 : w.heap.size ≤ M1 := by rw [← HM1.out]; exact HB.out.size
        have HXLn := Lib.hid (HXL.out.below b1)
        clear HXL
        have HXL := HXLn
        clear HXLn
        have K1n := Lib.hid (K1.out.below b1 K1.out.lt)
        clear K1
        have K1 := K1n
        clear K1n
        have K2n := Lib.hid (K2.out.below b1 K2.out.lt)
        clear K2
        have K2 := K2n
        clear K2n
        have K3n := Lib.hid (K3.out.below b1 K3.out.lt)
        clear K3
        have K3 := K3n
        clear K3n
        have K4n := Lib.hid (K4.out.below b1 K4.out.lt)
        clear K4
        have K4 := K4n
        clear K4n
        have K5n := Lib.hid (K5.out.below b1 K5.out.lt)
        clear K5
        have K5 := K5n
        clear K5n
        have HBn := Lib.hid (HB.out.trans (b1.mono HB.out.size))
        clear HB
        have HB := HBn
        clear HBn
        clear b1 HM1 hS
        have hS := (And.intro K1.out (And.intro K2.out (And.intro K3.out (And.intro K4.out (And.intro K5.out HB.out)))))
        refine takeCE (i := 4) (some 42) 12 #[.agg (heC h)] (R := fun v w' => HelV W10 h H v w') rfl rfl (by kernel_rfl) (by rfl) (by go_simp) (hello_v h H W10 (HRH.out.below HB.out) HMH.out) (fun v w' h => by obtain ⟨B3, d3, H3, rfl, hr1, hs1, hb1⟩ := h; exact ⟨hS.1.below hb1 hS.1.lt, hS.2.1.below hb1 hS.2.1.lt, hS.2.2.1.below hb1 hS.2.2.1.lt, hS.2.2.2.1.below hb1 hS.2.2.2.1.lt, hS.2.2.2.2.1.below hb1 hS.2.2.2.2.1.lt, hS.2.2.2.2.2.trans (hb1.mono hS.2.2.2.2.2.size)⟩) ?_
        intro v W11 h hS2
        obtain ⟨B3, d3, H3, rfl, hr1, hs1, hb1⟩ := h
        simp only [Act.put, List.setIfInBounds_toArray, List.set_cons_zero, List.set_cons_succ]
        have HXLn := Lib.hid (HXL.out.below hb1)
        clear HXL
        have HXL := HXLn
        clear HXLn
        have K6n := Lib.hid (K6.out.below hb1 K6.out.lt)
        clear K6
        have K6 := K6n
        clear K6n
        clear K1
        clear K2
        clear K3
        clear K4
        clear K5
        clear HB
        clear hS
        have hS := hS2
        clear hS2
        have K1 := Lib.hid hS.1
        have K2 := Lib.hid hS.2.1
        have K3 := Lib.hid hS.2.2.1
        have K4 := Lib.hid hS.2.2.2.1
        have K5 := Lib.hid hS.2.2.2.2.1
        have HB := Lib.hid hS.2.2.2.2.2
        have HXH := Lib.hid hr1
        have HSH := Lib.hid hs1
        clear hr1 hs1 hb1
        refine takeC (i := 6) (some 44) 13 #[.agg (loC ⟨l.s, l.nu, l.lv, A3, l.m, c3⟩), .agg (ajC R2.1), .agg (heC ⟨h.s, h.nu, h.lv, h.ho, B3, h.m, d3, h.st, h.nm, h.th, h.tn⟩), .int .i64 now] (.tuple #[.agg (ajC R3.1), .int .i64 R3.2]) (R := fun w' => Below W11.heap.size W11 w') rfl rfl (by kernel_rfl) (by rfl) (by go_simp) (step_law l R2.1 h now L H L3 H3 A3 B3 c3 d3 _ HYL.out HYA3.out HYH.out HYT.out HXL.out HXH.out (by have := HML.out; omega) (by have := HMH.out; omega) HSL.out HSH.out R3 HR3.out) (fun w' hb => ⟨hS.1.below hb hS.1.lt, hS.2.1.below hb hS.2.1.lt, hS.2.2.1.below hb hS.2.2.1.lt, hS.2.2.2.1.below hb hS.2.2.2.1.lt, hS.2.2.2.2.1.below hb hS.2.2.2.2.1.lt, hS.2.2.2.2.2.trans (hb.mono hS.2.2.2.2.2.size)⟩) ?_
        intro W12 hb1 hS2
        simp only [Act.put, List.setIfInBounds_toArray, List.set_cons_zero, List.set_cons_succ]
        have HXLn := Lib.hid (HXL.out.below hb1)
        clear HXL
        have HXL := HXLn
        clear HXLn
        have HXHn := Lib.hid (HXH.out.below hb1)
        clear HXH
        have HXH := HXHn
        clear HXHn
        have K6n := Lib.hid (K6.out.below hb1 K6.out.lt)
        clear K6
        have K6 := K6n
        clear K6n
        clear K1
        clear K2
        clear K3
        clear K4
        clear K5
        clear HB
        clear hS
        have hS := hS2
        clear hS2
        have K1 := Lib.hid hS.1
        have K2 := Lib.hid hS.2.1
        have K3 := Lib.hid hS.2.2.1
        have K4 := Lib.hid hS.2.2.2.1
        have K5 := Lib.hid hS.2.2.2.2.1
        have HB := Lib.hid hS.2.2.2.2.2
        clear HXL HXH HSL HSH
        clear hb1
        refine takeY (i := 7) (some 37) (v := .tuple #[.agg (ajC R3.1), .int .i64 R3.2]) rfl rfl (by kernel_rfl) (by kernel_rfl) (by kernel_rfl) (fun _ _ _ h => h) (by rfl) (fun w' hS => by go_simp) hS ?_
        simp only [Act.put, List.setIfInBounds_toArray, List.set_cons_zero, List.set_cons_succ]
        refine takeY (i := 8) (some 45) (v := .agg (ajC R3.1)) rfl rfl (by kernel_rfl) (by kernel_rfl) (by kernel_rfl) (fun _ _ _ h => h) (by rfl) (fun w' hS => by go_simp) hS ?_
        simp only [Act.put, List.setIfInBounds_toArray, List.set_cons_zero, List.set_cons_succ]
        refine takeY (i := 9) (some 46) (v := .int .i64 R3.2) rfl rfl (by kernel_rfl) (by kernel_rfl) (by kernel_rfl) (fun _ _ _ h => h) (by rfl) (fun w' hS => by go_simp) hS ?_
        simp only [Act.put, List.setIfInBounds_toArray, List.set_cons_zero, List.set_cons_succ]
        refine takeSt (i := 11) 36 (.tmp 13) (.tmp 45) M1 0 (.agg (ajC R3.1)) (ajC R3.1) (ajC R3.1) rfl rfl (by kernel_rfl) (by rfl) rfl rfl rfl rfl info_ajP (ajC_one _) K6.out (Nat.le_of_ble_eq_true rfl) (by kernel_rfl) ?_
        intro W13 q1
        refine ⟨⟨K1.out.far q1 (by omega), K2.out.far q1 (by omega), K3.out.far q1 (by omega), K4.out.far q1 (by omega), K5.out.far q1 (by omega), HB.out.trans (q1.2.1 _ (by omega))⟩, ?_⟩
        simp only [Act.put, List.setIfInBounds_toArray, List.set_cons_zero, List.set_cons_succ]
        have K6n : Hid (Blk 36 W13 M1 (ajC R3.1)) := Lib.hid q1.1
        clear K6
        have K6 := K6n
        clear K6n
        have K1n := Lib.hid (K1.out.far q1 (by omega))
        clear K1
        have K1 := K1n
        clear K1n
        have K2n := Lib.hid (K2.out.far q1 (by omega))
        clear K2
        have K2 := K2n
        clear K2n
        have K3n := Lib.hid (K3.out.far q1 (by omega))
        clear K3
        have K3 := K3n
        clear K3n
        have K4n := Lib.hid (K4.out.far q1 (by omega))
        clear K4
        have K4 := K4n
        clear K4n
        have K5n := Lib.hid (K5.out.far q1 (by omega))
        clear K5
        have K5 := K5n
        clear K5n
        have HBn := Lib.hid (HB.out.trans (q1.2.1 _ (by omega)))
        clear HB
        have HB := HBn
        clear HBn
        clear q1 hS
        have hS := (And.intro K1.out (And.intro K2.out (And.intro K3.out (And.intro K4.out (And.intro K5.out HB.out)))))
        refine takeY (i := 12) (some 14) (v := .int .i64 R3.2) rfl rfl (by kernel_rfl) (by kernel_rfl) (by kernel_rfl) (fun _ _ _ h => h) (by rfl) (fun w' hS => by go_simp) hS ?_
        simp only [Act.put, List.setIfInBounds_toArray, List.set_cons_zero, List.set_cons_succ]
        clear hS
        refine wpAnyH_done (by kernel_rfl) ?_ _
        go_wp2_with fail
        go_meet
        case rel => exact ⟨M1, rfl, rfl, K6, lt_N1_M1, K1, lt_N2_M1, K2, lt_N3_M1, K3, lt_NK4_M1, K4, lt_NK5_M1, K5, le_HB_M1, HB⟩
    · skip
      intro W9 k1 b1 s1
      refine ⟨⟨hS.1.below b1 hS.1.lt, hS.2.1.below b1 hS.2.1.lt, hS.2.2.1.below b1 hS.2.2.1.lt, hS.2.2.2.1.below b1 hS.2.2.2.1.lt, hS.2.2.2.2.1.below b1 hS.2.2.2.2.1.lt, hS.2.2.2.2.2.trans (b1.mono hS.2.2.2.2.2.size)⟩, ?_⟩
      simp only [Act.put, List.setIfInBounds_toArray, List.set_cons_zero, List.set_cons_succ]
      have K6 := Lib.hid k1
      clear k1
      have lt_N1_M0 : N1 < M0 := by rw [← HM0.out]; exact K1.out.lt
      have lt_N2_M0 : N2 < M0 := by rw [← HM0.out]; exact K2.out.lt
      have lt_N3_M0 : N3 < M0 := by rw [← HM0.out]; exact K3.out.lt
      have lt_NK4_M0 : NK4 < M0 := by rw [← HM0.out]; exact K4.out.lt
      have lt_NK5_M0 : NK5 < M0 := by rw [← HM0.out]; exact K5.out.lt
      have le_HB_M0 : w.heap.size ≤ M0 := by rw [← HM0.out]; exact HB.out.size
      have K1n := Lib.hid (K1.out.below b1 K1.out.lt)
      clear K1
      have K1 := K1n
      clear K1n
      have K2n := Lib.hid (K2.out.below b1 K2.out.lt)
      clear K2
      have K2 := K2n
      clear K2n
      have K3n := Lib.hid (K3.out.below b1 K3.out.lt)
      clear K3
      have K3 := K3n
      clear K3n
      have K4n := Lib.hid (K4.out.below b1 K4.out.lt)
      clear K4
      have K4 := K4n
      clear K4n
      have K5n := Lib.hid (K5.out.below b1 K5.out.lt)
      clear K5
      have K5 := K5n
      clear K5n
      have HBn := Lib.hid (HB.out.trans (b1.mono HB.out.size))
      clear HB
      have HB := HBn
      clear HBn
      clear b1 HM0 hS
      have hS := (And.intro K1.out (And.intro K2.out (And.intro K3.out (And.intro K4.out (And.intro K5.out HB.out)))))
      refine takeCE (i := 1) (some 39) 11 #[.agg (loC l)] (R := fun v w' => LocV W9 l L v w') rfl rfl (by kernel_rfl) (by rfl) (by go_simp) (local_v l L W9 (HRL.out.below HB.out) HML.out) (fun v w' h => by obtain ⟨A3, c3, L3, rfl, hr1, hs1, hb1⟩ := h; exact ⟨hS.1.below hb1 hS.1.lt, hS.2.1.below hb1 hS.2.1.lt, hS.2.2.1.below hb1 hS.2.2.1.lt, hS.2.2.2.1.below hb1 hS.2.2.2.1.lt, hS.2.2.2.2.1.below hb1 hS.2.2.2.2.1.lt, hS.2.2.2.2.2.trans (hb1.mono hS.2.2.2.2.2.size)⟩) ?_
      intro v W10 h hS2
      obtain ⟨A3, c3, L3, rfl, hr1, hs1, hb1⟩ := h
      simp only [Act.put, List.setIfInBounds_toArray, List.set_cons_zero, List.set_cons_succ]
      have K6n := Lib.hid (K6.out.below hb1 K6.out.lt)
      clear K6
      have K6 := K6n
      clear K6n
      clear K1
      clear K2
      clear K3
      clear K4
      clear K5
      clear HB
      clear hS
      have hS := hS2
      clear hS2
      have K1 := Lib.hid hS.1
      have K2 := Lib.hid hS.2.1
      have K3 := Lib.hid hS.2.2.1
      have K4 := Lib.hid hS.2.2.2.1
      have K5 := Lib.hid hS.2.2.2.2.1
      have HB := Lib.hid hS.2.2.2.2.2
      have HXL := Lib.hid hr1
      have HSL := Lib.hid hs1
      clear hr1 hs1 hb1
      refine takeCE (i := 4) (some 42) 12 #[.agg (heC h)] (R := fun v w' => HelV W10 h H v w') rfl rfl (by kernel_rfl) (by rfl) (by go_simp) (hello_v h H W10 (HRH.out.below HB.out) HMH.out) (fun v w' h => by obtain ⟨B3, d3, H3, rfl, hr1, hs1, hb1⟩ := h; exact ⟨hS.1.below hb1 hS.1.lt, hS.2.1.below hb1 hS.2.1.lt, hS.2.2.1.below hb1 hS.2.2.1.lt, hS.2.2.2.1.below hb1 hS.2.2.2.1.lt, hS.2.2.2.2.1.below hb1 hS.2.2.2.2.1.lt, hS.2.2.2.2.2.trans (hb1.mono hS.2.2.2.2.2.size)⟩) ?_
      intro v W11 h hS2
      obtain ⟨B3, d3, H3, rfl, hr1, hs1, hb1⟩ := h
      simp only [Act.put, List.setIfInBounds_toArray, List.set_cons_zero, List.set_cons_succ]
      have HXLn := Lib.hid (HXL.out.below hb1)
      clear HXL
      have HXL := HXLn
      clear HXLn
      have K6n := Lib.hid (K6.out.below hb1 K6.out.lt)
      clear K6
      have K6 := K6n
      clear K6n
      clear K1
      clear K2
      clear K3
      clear K4
      clear K5
      clear HB
      clear hS
      have hS := hS2
      clear hS2
      have K1 := Lib.hid hS.1
      have K2 := Lib.hid hS.2.1
      have K3 := Lib.hid hS.2.2.1
      have K4 := Lib.hid hS.2.2.2.1
      have K5 := Lib.hid hS.2.2.2.2.1
      have HB := Lib.hid hS.2.2.2.2.2
      have HXH := Lib.hid hr1
      have HSH := Lib.hid hs1
      clear hr1 hs1 hb1
      refine takeC (i := 6) (some 44) 13 #[.agg (loC ⟨l.s, l.nu, l.lv, A3, l.m, c3⟩), .agg (ajC R2.1), .agg (heC ⟨h.s, h.nu, h.lv, h.ho, B3, h.m, d3, h.st, h.nm, h.th, h.tn⟩), .int .i64 now] (.tuple #[.agg (ajC R3.1), .int .i64 R3.2]) (R := fun w' => Below W11.heap.size W11 w') rfl rfl (by kernel_rfl) (by rfl) (by go_simp) (step_law l R2.1 h now L H L3 H3 A3 B3 c3 d3 _ HYL.out HYA3.out HYH.out HYT.out HXL.out HXH.out (by have := HML.out; omega) (by have := HMH.out; omega) HSL.out HSH.out R3 HR3.out) (fun w' hb => ⟨hS.1.below hb hS.1.lt, hS.2.1.below hb hS.2.1.lt, hS.2.2.1.below hb hS.2.2.1.lt, hS.2.2.2.1.below hb hS.2.2.2.1.lt, hS.2.2.2.2.1.below hb hS.2.2.2.2.1.lt, hS.2.2.2.2.2.trans (hb.mono hS.2.2.2.2.2.size)⟩) ?_
      intro W12 hb1 hS2
      simp only [Act.put, List.setIfInBounds_toArray, List.set_cons_zero, List.set_cons_succ]
      have HXLn := Lib.hid (HXL.out.below hb1)
      clear HXL
      have HXL := HXLn
      clear HXLn
      have HXHn := Lib.hid (HXH.out.below hb1)
      clear HXH
      have HXH := HXHn
      clear HXHn
      have K6n := Lib.hid (K6.out.below hb1 K6.out.lt)
      clear K6
      have K6 := K6n
      clear K6n
      clear K1
      clear K2
      clear K3
      clear K4
      clear K5
      clear HB
      clear hS
      have hS := hS2
      clear hS2
      have K1 := Lib.hid hS.1
      have K2 := Lib.hid hS.2.1
      have K3 := Lib.hid hS.2.2.1
      have K4 := Lib.hid hS.2.2.2.1
      have K5 := Lib.hid hS.2.2.2.2.1
      have HB := Lib.hid hS.2.2.2.2.2
      clear HXL HXH HSL HSH
      clear hb1
      refine takeY (i := 7) (some 37) (v := .tuple #[.agg (ajC R3.1), .int .i64 R3.2]) rfl rfl (by kernel_rfl) (by kernel_rfl) (by kernel_rfl) (fun _ _ _ h => h) (by rfl) (fun w' hS => by go_simp) hS ?_
      simp only [Act.put, List.setIfInBounds_toArray, List.set_cons_zero, List.set_cons_succ]
      refine takeY (i := 8) (some 45) (v := .agg (ajC R3.1)) rfl rfl (by kernel_rfl) (by kernel_rfl) (by kernel_rfl) (fun _ _ _ h => h) (by rfl) (fun w' hS => by go_simp) hS ?_
      simp only [Act.put, List.setIfInBounds_toArray, List.set_cons_zero, List.set_cons_succ]
      refine takeY (i := 9) (some 46) (v := .int .i64 R3.2) rfl rfl (by kernel_rfl) (by kernel_rfl) (by kernel_rfl) (fun _ _ _ h => h) (by rfl) (fun w' hS => by go_simp) hS ?_
      simp only [Act.put, List.setIfInBounds_toArray, List.set_cons_zero, List.set_cons_succ]
      refine takeSt (i := 11) 36 (.tmp 13) (.tmp 45) M0 0 (.agg (ajC R3.1)) (ajC R3.1) (ajC R3.1) rfl rfl (by kernel_rfl) (by rfl) rfl rfl rfl rfl info_ajP (ajC_one _) K6.out (Nat.le_of_ble_eq_true rfl) (by kernel_rfl) ?_
      intro W13 q1
      refine ⟨⟨K1.out.far q1 (by omega), K2.out.far q1 (by omega), K3.out.far q1 (by omega), K4.out.far q1 (by omega), K5.out.far q1 (by omega), HB.out.trans (q1.2.1 _ (by omega))⟩, ?_⟩
      simp only [Act.put, List.setIfInBounds_toArray, List.set_cons_zero, List.set_cons_succ]
      have K6n : Hid (Blk 36 W13 M0 (ajC R3.1)) := Lib.hid q1.1
      clear K6
      have K6 := K6n
      clear K6n
      have K1n := Lib.hid (K1.out.far q1 (by omega))
      clear K1
      have K1 := K1n
      clear K1n
      have K2n := Lib.hid (K2.out.far q1 (by omega))
      clear K2
      have K2 := K2n
      clear K2n
      have K3n := Lib.hid (K3.out.far q1 (by omega))
      clear K3
      have K3 := K3n
      clear K3n
      have K4n := Lib.hid (K4.out.far q1 (by omega))
      clear K4
      have K4 := K4n
      clear K4n
      have K5n := Lib.hid (K5.out.far q1 (by omega))
      clear K5
      have K5 := K5n
      clear K5n
      have HBn := Lib.hid (HB.out.trans (q1.2.1 _ (by omega)))
      clear HB
      have HB := HBn
      clear HBn
      clear q1 hS
      have hS := (And.intro K1.out (And.intro K2.out (And.intro K3.out (And.intro K4.out (And.intro K5.out HB.out)))))
      refine takeY (i := 12) (some 14) (v := .int .i64 R3.2) rfl rfl (by kernel_rfl) (by kernel_rfl) (by kernel_rfl) (fun _ _ _ h => h) (by rfl) (fun w' hS => by go_simp) hS ?_
      simp only [Act.put, List.setIfInBounds_toArray, List.set_cons_zero, List.set_cons_succ]
      clear hS
      refine wpAnyH_done (by kernel_rfl) ?_ _
      go_wp2_with fail
      go_meet
      case rel => exact ⟨M0, rfl, rfl, K6, lt_N1_M0, K1, lt_N2_M0, K2, lt_N3_M0, K3, lt_NK4_M0, K4, lt_NK5_M0, K5, le_HB_M0, HB⟩
  case rest =>
  clear K1
  clear K2
  clear K3
  clear K4
  clear K5
  clear HB
  obtain ⟨NK6, rfl, rfl, K6, lt_N1_NK6, K1, lt_N2_NK6, K2, lt_N3_NK6, K3, lt_NK4_NK6, K4, lt_NK5_NK6, K5, le_HB_NK6, HB⟩ := hcut
  rcases HTW.out with ⟨e1, e2⟩ | ⟨e2, e3⟩
  · skip
    have HK4 := K4
    rw [e1] at HK4
    have HQ := Lib.hid e2
    have hk2 : R1.2 = 1 ∨ R1.2 = 2 ∨ R1.2 = 7 := e2
    clear e1 e2 HTW
    obtain ⟨E, hE⟩ : ∃ E, R1.2 = E := ⟨_, rfl⟩
    rw [hE] at hk2 ⊢
    clear hE HQ
    rcases hk2 with rfl | rfl | rfl
    · skip
      go_wp2_with (refine wpList_ld (op := ⟨some 57, _, _, _, _, _⟩) (by rfl) 36 (.tmp 9) rfl NK4 0 rfl (ajC a) _ HK4.out.all Try.underlying36 rfl info_ajP ?_; refine Hid.out ?_)
      refine Lib.hid ?_
      go_wp2_with (refine wpList_ld (op := ⟨some 58, _, _, _, _, _⟩) (by rfl) 28 (.tmp 5) rfl N2 0 rfl (ajC a) _ K2.out.all Try.underlying28 rfl info_ajR ?_; refine Hid.out ?_)
      refine Lib.hid ?_
      go_wp2_with (refine wpList_gv (op := ⟨some 59, _, _, _, _, _⟩) _ (by rfl) (eql_self _ _ _ _ _ _ rfl rfl guard_ajP _ (self_ajP a HYA1.out) rfl rfl _) ?_; refine Hid.out ?_)
      refine Lib.hid ?_
      go_wp2_with fail
      go_ret
      exact ⟨rfl, HB.out⟩
    · skip
      go_wp2_with (refine wpList_ld (op := ⟨some 57, _, _, _, _, _⟩) (by rfl) 36 (.tmp 9) rfl NK4 0 rfl (ajC a) _ HK4.out.all Try.underlying36 rfl info_ajP ?_; refine Hid.out ?_)
      refine Lib.hid ?_
      go_wp2_with (refine wpList_ld (op := ⟨some 58, _, _, _, _, _⟩) (by rfl) 28 (.tmp 5) rfl N2 0 rfl (ajC a) _ K2.out.all Try.underlying28 rfl info_ajR ?_; refine Hid.out ?_)
      refine Lib.hid ?_
      go_wp2_with (refine wpList_gv (op := ⟨some 59, _, _, _, _, _⟩) _ (by rfl) (eql_self _ _ _ _ _ _ rfl rfl guard_ajP _ (self_ajP a HYA1.out) rfl rfl _) ?_; refine Hid.out ?_)
      refine Lib.hid ?_
      go_wp2_with fail
      go_ret
      exact ⟨rfl, HB.out⟩
    · skip
      go_wp2_with (refine wpList_ld (op := ⟨some 57, _, _, _, _, _⟩) (by rfl) 36 (.tmp 9) rfl NK4 0 rfl (ajC a) _ HK4.out.all Try.underlying36 rfl info_ajP ?_; refine Hid.out ?_)
      refine Lib.hid ?_
      go_wp2_with (refine wpList_ld (op := ⟨some 58, _, _, _, _, _⟩) (by rfl) 28 (.tmp 5) rfl N2 0 rfl (ajC a) _ K2.out.all Try.underlying28 rfl info_ajR ?_; refine Hid.out ?_)
      refine Lib.hid ?_
      go_wp2_with (refine wpList_gv (op := ⟨some 59, _, _, _, _, _⟩) _ (by rfl) (eql_self _ _ _ _ _ _ rfl rfl guard_ajP _ (self_ajP a HYA1.out) rfl rfl _) ?_; refine Hid.out ?_)
      refine Lib.hid ?_
      go_wp2_with fail
      go_ret
      exact ⟨rfl, HB.out⟩
  · skip
    have e4 : R2 = R1 := HR2.out.symm.trans e3
    have e5 : R3 = R1 := by have := HR3.out; rw [e4] at this; exact this.symm.trans e3
    rw [e4] at K5
    rw [e5] at K6
    rw [e4, e5]
    have hk2 : R1.2 = 0 ∨ R1.2 = 12 := e2
    clear e2 e3 e4 e5 HTW HR1 HR2 HR3
    obtain ⟨E, hE⟩ : ∃ E, R1.2 = E := ⟨_, rfl⟩
    rw [hE] at hk2 ⊢
    clear hE
    rcases hk2 with rfl | rfl
    · skip
      go_wp2_with (refine wpList_ld (op := ⟨some 69, _, _, _, _, _⟩) (by rfl) 36 (.tmp 9) rfl NK4 0 rfl (ajC R1.1) _ K4.out.all Try.underlying36 rfl info_ajP ?_; refine Hid.out ?_)
      refine Lib.hid ?_
      go_wp2_with (refine wpList_ld (op := ⟨some 70, _, _, _, _, _⟩) (by rfl) 36 (.tmp 11) rfl NK5 0 rfl (ajC R1.1) _ K5.out.all Try.underlying36 rfl info_ajP ?_; refine Hid.out ?_)
      refine Lib.hid ?_
      go_wp2_with (refine wpList_gv (op := ⟨some 71, _, _, _, _, _⟩) _ (by rfl) (eql_self _ _ _ _ _ _ rfl rfl guard_ajP _ (self_ajP R1.1 HYA2.out) rfl rfl _) ?_; refine Hid.out ?_)
      refine Lib.hid ?_
      go_wp2_with (refine wpList_ld (op := ⟨some 74, _, _, _, _, _⟩) (by rfl) 36 (.tmp 11) rfl NK5 0 rfl (ajC R1.1) _ K5.out.all Try.underlying36 rfl info_ajP ?_; refine Hid.out ?_)
      refine Lib.hid ?_
      go_wp2_with (refine wpList_ld (op := ⟨some 75, _, _, _, _, _⟩) (by rfl) 36 (.tmp 13) rfl NK6 0 rfl (ajC R1.1) _ K6.out.all Try.underlying36 rfl info_ajP ?_; refine Hid.out ?_)
      refine Lib.hid ?_
      go_wp2_with (refine wpList_gv (op := ⟨some 76, _, _, _, _, _⟩) _ (by rfl) (eql_self _ _ _ _ _ _ rfl rfl guard_ajP _ (self_ajP R1.1 HYA2.out) rfl rfl _) ?_; refine Hid.out ?_)
      refine Lib.hid ?_
      go_wp2_with fail
      go_ret
      exact ⟨rfl, HB.out⟩
    · skip
      go_wp2_with (refine wpList_ld (op := ⟨some 69, _, _, _, _, _⟩) (by rfl) 36 (.tmp 9) rfl NK4 0 rfl (ajC R1.1) _ K4.out.all Try.underlying36 rfl info_ajP ?_; refine Hid.out ?_)
      refine Lib.hid ?_
      go_wp2_with (refine wpList_ld (op := ⟨some 70, _, _, _, _, _⟩) (by rfl) 36 (.tmp 11) rfl NK5 0 rfl (ajC R1.1) _ K5.out.all Try.underlying36 rfl info_ajP ?_; refine Hid.out ?_)
      refine Lib.hid ?_
      go_wp2_with (refine wpList_gv (op := ⟨some 71, _, _, _, _, _⟩) _ (by rfl) (eql_self _ _ _ _ _ _ rfl rfl guard_ajP _ (self_ajP R1.1 HYA2.out) rfl rfl _) ?_; refine Hid.out ?_)
      refine Lib.hid ?_
      go_wp2_with (refine wpList_ld (op := ⟨some 74, _, _, _, _, _⟩) (by rfl) 36 (.tmp 11) rfl NK5 0 rfl (ajC R1.1) _ K5.out.all Try.underlying36 rfl info_ajP ?_; refine Hid.out ?_)
      refine Lib.hid ?_
      go_wp2_with (refine wpList_ld (op := ⟨some 75, _, _, _, _, _⟩) (by rfl) 36 (.tmp 13) rfl NK6 0 rfl (ajC R1.1) _ K6.out.all Try.underlying36 rfl info_ajP ?_; refine Hid.out ?_)
      refine Lib.hid ?_
      go_wp2_with (refine wpList_gv (op := ⟨some 76, _, _, _, _, _⟩) _ (by rfl) (eql_self _ _ _ _ _ _ rfl rfl guard_ajP _ (self_ajP R1.1 HYA2.out) rfl rfl _) ?_; refine Hid.out ?_)
      refine Lib.hid ?_
      go_wp2_with fail
      go_ret
      exact ⟨rfl, HB.out⟩
end Go.Proofs.Ythmnbhmficdifaa
