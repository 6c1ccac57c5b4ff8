/- The walk of AdjSteps: for every input the law returns true, and nothing that was there is written. No condition. -/
import Derived.Test.YthmnbhmficdifaaADoc
import Derived.Deep.DeepCutAuto
namespace Go.Proofs.Ythmnbhmficdifaa
open Go.RowKit
set_option linter.unusedVariables false
theorem sameAreas_b (A B : Option Addr) (m c d : Nat) (L L' : Nat → Sl) (w : World) (ha : RdS w A m L) (hb : RdS w B m L') (he : ∀ j, j < m → sameS (L j) (L' j)) (hm : m ≤ 9223372036854775807) :
    Calls Try.prog 15 #[.slice A m c, .slice B m d] w fun e w' => e = .returned (.bool true) ∧ Below w.heap.size w w' :=
  (sameAreas_yes A B m c d L L' w ha hb he hm).mono fun e w' ⟨h1, r, h2⟩ => ⟨h1, by rw [h2]; exact bdrewN (Below.refl _ _) r⟩
theorem ne_a : (32 : TypeId) ≠ 49 := by decide
theorem ne_b : (32 : TypeId) ≠ 5 := by decide
theorem ne_c : (34 : TypeId) ≠ 49 := by decide
theorem ne_d : (34 : TypeId) ≠ 5 := by decide

set_option maxHeartbeats 60000000 in
set_option maxRecDepth 100000 in
theorem walkAdjSteps (l : Lo) (L : Nat → Sl) (a : Aj) (h : He) (H : Nat → Sl) (now : Int) (w : World) (w0 : InLo w l L) (w1 : InAj a) (w2 : InHe w h H) (w3 : (Lit.int .i64 now).wf = true) :
    Calls Try.prog 3 #[.agg (loC l), .agg (ajC a), .agg (heC h), .int .i64 now] w fun e w' => e = .returned (.bool true) ∧ Below w.heap.size w w' := by
  obtain ⟨⟨hyl, _, _⟩, hrl, _, hml1, hml2⟩ := w0
  obtain ⟨_, hya, _⟩ := w1
  obtain ⟨⟨hyh, _, _, _, _, hyt, _⟩, hrh, _, hmh1, hmh2⟩ := w2
  have HRL := Lib.hid hrl
  have HRH := Lib.hid hrh
  have HML : Hid (l.m * 24 ≤ 140737488351232) := Lib.hid (by omega)
  have HMH : Hid (h.m * 24 ≤ 140737488351232) := Lib.hid (by omega)
  obtain ⟨R, hR⟩ : ∃ R, stepR l a h now (shB L l.m H h.m) = R := ⟨_, rfl⟩
  have HYL := Lib.hid hyl
  have HYA := Lib.hid hya
  have HYH := Lib.hid hyh
  have HYT := Lib.hid hyt
  have HYR : Hid (byB R.1.p) := Lib.hid (by rw [← hR]; exact stepR_by hya hyh)
  have HR := Lib.hid hR
  have HSR := Lib.hid (self_ajR R.1 HYR.out)
  clear hrl hrh hml1 hml2 hmh1 hmh2 hyl hya hyh hyt hR w3
  go_enter Try.func3, Try.ntmps3
  have HB := Lib.hid (Below.refl w.heap.size w)
  obtain ⟨N1, hN1⟩ : ∃ N, w.heap.size = N := ⟨_, rfl⟩
  have HN1 := Lib.hid hN1
  clear hN1
  go_wp2_with (refine wpList_box (op := ⟨some 4, _, _, _, _, _⟩) rfl 26 (.tmp 0) rfl (loC l) rfl N1 HN1.out ?_; intro w1 k1 b1 s1; refine Hid.out ?_)
  refine Lib.hid ?_
  have K1 := Lib.hid k1
  clear k1
  have le_HB_N1 : w.heap.size ≤ N1 := by rw [← HN1.out]; exact HB.out.size
  have HBn := Lib.hid (HB.out.trans (b1.mono HB.out.size))
  clear HB
  have HB := HBn
  clear HBn
  clear b1 HN1
  obtain ⟨N2, hN2⟩ : ∃ N, w1.heap.size = N := ⟨_, rfl⟩
  have HN2 := Lib.hid hN2
  clear hN2
  go_wp2_with (refine wpList_box (op := ⟨some 5, _, _, _, _, _⟩) rfl 28 (.tmp 1) rfl (ajC a) rfl N2 HN2.out ?_; intro w2 k1 b1 s1; refine Hid.out ?_)
  refine Lib.hid ?_
  have K2 := Lib.hid k1
  clear k1
  have lt_N1_N2 : N1 < N2 := by rw [← HN2.out]; exact K1.out.lt
  have le_HB_N2 : w.heap.size ≤ N2 := by rw [← HN2.out]; exact HB.out.size
  have K1n := Lib.hid (K1.out.below b1 K1.out.lt)
  clear K1
  have K1 := K1n
  clear K1n
  have HBn := Lib.hid (HB.out.trans (b1.mono HB.out.size))
  clear HB
  have HB := HBn
  clear HBn
  clear b1 HN2
  obtain ⟨N3, hN3⟩ : ∃ N, w2.heap.size = N := ⟨_, rfl⟩
  have HN3 := Lib.hid hN3
  clear hN3
  go_wp2_with (refine wpList_box (op := ⟨some 6, _, _, _, _, _⟩) rfl 30 (.tmp 2) rfl (heC h) rfl N3 HN3.out ?_; intro w3 k1 b1 s1; refine Hid.out ?_)
  refine Lib.hid ?_
  have K3 := Lib.hid k1
  clear k1
  have lt_N1_N3 : N1 < N3 := by rw [← HN3.out]; exact K1.out.lt
  have lt_N2_N3 : N2 < N3 := by rw [← HN3.out]; exact K2.out.lt
  have le_HB_N3 : w.heap.size ≤ N3 := by rw [← HN3.out]; exact HB.out.size
  have K1n := Lib.hid (K1.out.below b1 K1.out.lt)
  clear K1
  have K1 := K1n
  clear K1n
  have K2n := Lib.hid (K2.out.below b1 K2.out.lt)
  clear K2
  have K2 := K2n
  clear K2n
  have HBn := Lib.hid (HB.out.trans (b1.mono HB.out.size))
  clear HB
  have HB := HBn
  clear HBn
  clear b1 HN3
  go_wp2_with fail
  refine (awake_any _).mono ?_
  rintro e w4 ⟨rfl, b1⟩
  have K1n := Lib.hid (K1.out.below b1 K1.out.lt)
  clear K1
  have K1 := K1n
  clear K1n
  have K2n := Lib.hid (K2.out.below b1 K2.out.lt)
  clear K2
  have K2 := K2n
  clear K2n
  have K3n := Lib.hid (K3.out.below b1 K3.out.lt)
  clear K3
  have K3 := K3n
  clear K3n
  have HBn := Lib.hid (HB.out.trans (b1.mono HB.out.size))
  clear HB
  have HB := HBn
  clear HBn
  clear b1
  go_wp2_with fail
  go_cut [9, 10] (fun s1 s2 wc => ∃ P1 P2 A1 c1 L1 A2 c2 L2, s1 = .pointer (some ⟨P1, 0, none⟩) ∧ s2 = .pointer (some ⟨P2, 0, none⟩) ∧ Hid (Blk 32 wc P1 (loC ⟨l.s, l.nu, l.lv, A1, l.m, c1⟩)) ∧ Hid (Blk 34 wc P2 (heC ⟨h.s, h.nu, h.lv, h.ho, A2, h.m, c2, h.st, h.nm, h.th, h.tn⟩)) ∧ Hid (RdS wc A1 l.m L1) ∧ Hid (RdS wc A2 h.m L2) ∧ Hid (∀ j, j < l.m → sameS (L j) (L1 j)) ∧ Hid (∀ j, j < h.m → sameS (H j) (L2 j)) ∧ Hid (Blk 26 wc N1 (loC l)) ∧ Hid (Blk 28 wc N2 (ajC a)) ∧ Hid (Blk 30 wc N3 (heC h)) ∧ Hid (Below w.heap.size w wc))
  case first =>
    refine wp_region_held_drew (S := fun w' => Blk 26 w' N1 (loC l) ∧ Blk 28 w' N2 (ajC a) ∧ Blk 30 w' N3 (heC h) ∧ Below w.heap.size w w') (by kernel_rfl) ⟨K1.out, K2.out, K3.out, HB.out.drew⟩ (fun hS => ?_)
    generalize hW5 : w4.drew = W5 at hS ⊢
    clear hW5
    clear K1
    clear K2
    clear K3
    clear HB
    have K1 := Lib.hid hS.1
    have K2 := Lib.hid hS.2.1
    have K3 := Lib.hid hS.2.2.1
    have HB := Lib.hid hS.2.2.2
    refine takeL (i := 0) (some 17) 26 (.tmp 4) N1 0 (loC l) _ rfl rfl (by kernel_rfl) (by kernel_rfl) (by kernel_rfl) (fun _ _ _ h => h) (by rfl) rfl rfl (fun w' hS => hS.1.all) Try.underlying26 rfl info_loR hS ?_
    simp only [Act.put, List.setIfInBounds_toArray, List.set_cons_zero, List.set_cons_succ]
    refine takeL (i := 2) (some 19) 30 (.tmp 6) N3 0 (heC h) _ rfl rfl (by kernel_rfl) (by kernel_rfl) (by kernel_rfl) (fun _ _ _ h => h) (by rfl) rfl rfl (fun w' hS => hS.2.2.1.all) Try.underlying30 rfl info_heR hS ?_
    simp only [Act.put, List.setIfInBounds_toArray, List.set_cons_zero, List.set_cons_succ]
    obtain ⟨M0, hM0⟩ : ∃ N, W5.heap.size = N := ⟨_, rfl⟩
    have HM0 := Lib.hid hM0
    clear hM0
    refine wpAnyH_ready (show Region.ready _ _ _ = [1, 4, 5] from by kernel_rfl) (by simp) (consCE (i := 1) (some 18) 11 #[.agg (loC l)] (R := fun v w' => LocO W5 l L v w') rfl rfl (by rfl) (by go_simp) (local_o l L W5 (HRL.out.below HB.out) HML.out) (fun v w' h => by obtain ⟨A1, c1, L1, rfl, hr1, hs1, hb1⟩ := h; exact ⟨hS.1.below hb1 hS.1.lt, hS.2.1.below hb1 hS.2.1.lt, hS.2.2.1.below hb1 hS.2.2.1.lt, hS.2.2.2.trans (hb1.mono hS.2.2.2.size)⟩) ?_ (consMk (i := 4) (some 9) 32 (loC lo0) rfl rfl (by rfl) rfl zero_loP M0 HM0.out ?_ (consMk (i := 5) (some 10) 34 (heC he0) rfl rfl (by rfl) rfl zero_heP M0 HM0.out ?_ AllReadyH.nil)))
    · skip
      clear HM0
      intro v W6 h hS2
      obtain ⟨A1, c1, L1, rfl, hr1, hs1, hb1⟩ := h
      simp only [Act.put, List.setIfInBounds_toArray, List.set_cons_zero, List.set_cons_succ]
      clear K1
      clear K2
      clear K3
      clear HB
      clear hS
      have hS := hS2
      clear hS2
      have K1 := Lib.hid hS.1
      have K2 := Lib.hid hS.2.1
      have K3 := Lib.hid hS.2.2.1
      have HB := Lib.hid hS.2.2.2
      have HXL := Lib.hid hr1
      have HSL := Lib.hid hs1
      clear hr1 hs1 hb1
      obtain ⟨M1, hM1⟩ : ∃ N, W6.heap.size = N := ⟨_, rfl⟩
      have HM1 := Lib.hid hM1
      clear hM1
      refine wpAnyH_ready (show Region.ready _ _ _ = [3, 4, 5] from by kernel_rfl) (by simp) (consCE (i := 3) (some 20) 12 #[.agg (heC h)] (R := fun v w' => HelO W6 h H v w') rfl rfl (by rfl) (by go_simp) (hello_o h H W6 (HRH.out.below HB.out) HMH.out) (fun v w' h => by obtain ⟨A2, c2, L2, rfl, hr1, hs1, hb1⟩ := h; exact ⟨hS.1.below hb1 hS.1.lt, hS.2.1.below hb1 hS.2.1.lt, hS.2.2.1.below hb1 hS.2.2.1.lt, hS.2.2.2.trans (hb1.mono hS.2.2.2.size)⟩) ?_ (consMk (i := 4) (some 9) 32 (loC lo0) rfl rfl (by rfl) rfl zero_loP M1 HM1.out ?_ (consMk (i := 5) (some 10) 34 (heC he0) rfl rfl (by rfl) rfl zero_heP M1 HM1.out ?_ AllReadyH.nil)))
      · skip
        clear HM1
        intro v W7 h hS2
        obtain ⟨A2, c2, L2, rfl, hr1, hs1, hb1⟩ := h
        simp only [Act.put, List.setIfInBounds_toArray, List.set_cons_zero, List.set_cons_succ]
        have HXLn := Lib.hid (HXL.out.below hb1)
        clear HXL
        have HXL := HXLn
        clear HXLn
        clear K1
        clear K2
        clear K3
        clear HB
        clear hS
        have hS := hS2
        clear hS2
        have K1 := Lib.hid hS.1
        have K2 := Lib.hid hS.2.1
        have K3 := Lib.hid hS.2.2.1
        have HB := Lib.hid hS.2.2.2
        have HXH := Lib.hid hr1
        have HSH := Lib.hid hs1
        clear hr1 hs1 hb1
        obtain ⟨M2, hM2⟩ : ∃ N, W7.heap.size = N := ⟨_, rfl⟩
        have HM2 := Lib.hid hM2
        clear hM2
        refine wpAnyH_ready (show Region.ready _ _ _ = [4, 5] from by kernel_rfl) (by simp) (consMk (i := 4) (some 9) 32 (loC lo0) rfl rfl (by rfl) rfl zero_loP M2 HM2.out ?_ (consMk (i := 5) (some 10) 34 (heC he0) rfl rfl (by rfl) rfl zero_heP M2 HM2.out ?_ AllReadyH.nil))
        · skip
          intro W8 k1 b1 s1
          refine ⟨⟨hS.1.below b1 hS.1.lt, hS.2.1.below b1 hS.2.1.lt, hS.2.2.1.below b1 hS.2.2.1.lt, hS.2.2.2.trans (b1.mono hS.2.2.2.size)⟩, ?_⟩
          simp only [Act.put, List.setIfInBounds_toArray, List.set_cons_zero, List.set_cons_succ]
          have K7 := Lib.hid k1
          clear k1
          have lt_N1_M2 : N1 < M2 := by rw [← HM2.out]; exact K1.out.lt
          have lt_N2_M2 : N2 < M2 := by rw [← HM2.out]; exact K2.out.lt
          have lt_N3_M2 : N3 < M2 := by rw [← HM2.out]; exact K3.out.lt
          have le_HB_M2 : w.heap.size ≤ M2 := by rw [← HM2.out]; exact HB.out.size
          have HXLn := Lib.hid (HXL.out.below b1)
          clear HXL
          have HXL := HXLn
          clear HXLn
          have HXHn := Lib.hid (HXH.out.below b1)
          clear HXH
          have HXH := HXHn
          clear HXHn
          have K1n := Lib.hid (K1.out.below b1 K1.out.lt)
          clear K1
          have K1 := K1n
          clear K1n
          have K2n := Lib.hid (K2.out.below b1 K2.out.lt)
          clear K2
          have K2 := K2n
          clear K2n
          have K3n := Lib.hid (K3.out.below b1 K3.out.lt)
          clear K3
          have K3 := K3n
          clear K3n
          have HBn := Lib.hid (HB.out.trans (b1.mono HB.out.size))
          clear HB
          have HB := HBn
          clear HBn
          clear b1 HM2 hS
          have hS := (And.intro K1.out (And.intro K2.out (And.intro K3.out HB.out)))
          obtain ⟨M2_4, hM2_4⟩ : ∃ N, W8.heap.size = N := ⟨_, rfl⟩
          have HM2_4 := Lib.hid hM2_4
          clear hM2_4
          refine takeMk (i := 5) (some 10) 34 (heC he0) rfl rfl (by kernel_rfl) (by rfl) rfl zero_heP M2_4 HM2_4.out ?_
          · skip
            intro W9 k1 b1 s1
            refine ⟨⟨hS.1.below b1 hS.1.lt, hS.2.1.below b1 hS.2.1.lt, hS.2.2.1.below b1 hS.2.2.1.lt, hS.2.2.2.trans (b1.mono hS.2.2.2.size)⟩, ?_⟩
            simp only [Act.put, List.setIfInBounds_toArray, List.set_cons_zero, List.set_cons_succ]
            have K8 := Lib.hid k1
            clear k1
            have lt_N1_M2_4 : N1 < M2_4 := by rw [← HM2_4.out]; exact K1.out.lt
            have lt_N2_M2_4 : N2 < M2_4 := by rw [← HM2_4.out]; exact K2.out.lt
            have lt_N3_M2_4 : N3 < M2_4 := by rw [← HM2_4.out]; exact K3.out.lt
            have lt_M2_M2_4 : M2 < M2_4 := by rw [← HM2_4.out]; exact K7.out.lt
            have le_HB_M2_4 : w.heap.size ≤ M2_4 := by rw [← HM2_4.out]; exact HB.out.size
            have HXLn := Lib.hid (HXL.out.below b1)
            clear HXL
            have HXL := HXLn
            clear HXLn
            have HXHn := Lib.hid (HXH.out.below b1)
            clear HXH
            have HXH := HXHn
            clear HXHn
            have K7n := Lib.hid (K7.out.below b1 K7.out.lt)
            clear K7
            have K7 := K7n
            clear K7n
            have K1n := Lib.hid (K1.out.below b1 K1.out.lt)
            clear K1
            have K1 := K1n
            clear K1n
            have K2n := Lib.hid (K2.out.below b1 K2.out.lt)
            clear K2
            have K2 := K2n
            clear K2n
            have K3n := Lib.hid (K3.out.below b1 K3.out.lt)
            clear K3
            have K3 := K3n
            clear K3n
            have HBn := Lib.hid (HB.out.trans (b1.mono HB.out.size))
            clear HB
            have HB := HBn
            clear HBn
            clear b1 HM2_4 hS
            have hS := (And.intro K1.out (And.intro K2.out (And.intro K3.out HB.out)))
            refine takeSt (i := 6) 32 (.tmp 9) (.tmp 18) M2 0 (.agg (loC ⟨l.s, l.nu, l.lv, A1, l.m, c1⟩)) (loC ⟨l.s, l.nu, l.lv, A1, l.m, c1⟩) (loC ⟨l.s, l.nu, l.lv, A1, l.m, c1⟩) rfl rfl (by kernel_rfl) (by rfl) rfl rfl rfl rfl info_loP (loC_one _) K7.out (Nat.le_of_ble_eq_true rfl) (by kernel_rfl) ?_
            intro W10 q1
            refine ⟨⟨K1.out.far q1 (by omega), K2.out.far q1 (by omega), K3.out.far q1 (by omega), HB.out.trans (q1.2.1 _ (by omega))⟩, ?_⟩
            simp only [Act.put, List.setIfInBounds_toArray, List.set_cons_zero, List.set_cons_succ]
            have HXLn := Lib.hid (HXL.out.farT K7.out ne_a ne_b q1)
            clear HXL
            have HXL := HXLn
            clear HXLn
            have HXHn := Lib.hid (HXH.out.farT K7.out ne_a ne_b q1)
            clear HXH
            have HXH := HXHn
            clear HXHn
            have K7n : Hid (Blk 32 W10 M2 (loC ⟨l.s, l.nu, l.lv, A1, l.m, c1⟩)) := Lib.hid q1.1
            clear K7
            have K7 := K7n
            clear K7n
            have K8n := Lib.hid (K8.out.far q1 (by omega))
            clear K8
            have K8 := K8n
            clear K8n
            have K1n := Lib.hid (K1.out.far q1 (by omega))
            clear K1
            have K1 := K1n
            clear K1n
            have K2n := Lib.hid (K2.out.far q1 (by omega))
            clear K2
            have K2 := K2n
            clear K2n
            have K3n := Lib.hid (K3.out.far q1 (by omega))
            clear K3
            have K3 := K3n
            clear K3n
            have HBn := Lib.hid (HB.out.trans (q1.2.1 _ (by omega)))
            clear HB
            have HB := HBn
            clear HBn
            clear q1 hS
            have hS := (And.intro K1.out (And.intro K2.out (And.intro K3.out HB.out)))
            refine takeSt (i := 7) 34 (.tmp 10) (.tmp 20) M2_4 0 (.agg (heC ⟨h.s, h.nu, h.lv, h.ho, A2, h.m, c2, h.st, h.nm, h.th, h.tn⟩)) (heC ⟨h.s, h.nu, h.lv, h.ho, A2, h.m, c2, h.st, h.nm, h.th, h.tn⟩) (heC ⟨h.s, h.nu, h.lv, h.ho, A2, h.m, c2, h.st, h.nm, h.th, h.tn⟩) rfl rfl (by kernel_rfl) (by rfl) rfl rfl rfl rfl info_heP (heC_one _) K8.out (Nat.le_of_ble_eq_true rfl) (by kernel_rfl) ?_
            intro W11 q1
            refine ⟨⟨K1.out.far q1 (by omega), K2.out.far q1 (by omega), K3.out.far q1 (by omega), HB.out.trans (q1.2.1 _ (by omega))⟩, ?_⟩
            simp only [Act.put, List.setIfInBounds_toArray, List.set_cons_zero, List.set_cons_succ]
            have HXLn := Lib.hid (HXL.out.farT K8.out ne_c ne_d q1)
            clear HXL
            have HXL := HXLn
            clear HXLn
            have HXHn := Lib.hid (HXH.out.farT K8.out ne_c ne_d q1)
            clear HXH
            have HXH := HXHn
            clear HXHn
            have K8n : Hid (Blk 34 W11 M2_4 (heC ⟨h.s, h.nu, h.lv, h.ho, A2, h.m, c2, h.st, h.nm, h.th, h.tn⟩)) := Lib.hid q1.1
            clear K8
            have K8 := K8n
            clear K8n
            have K7n := Lib.hid (K7.out.far q1 (by omega))
            clear K7
            have K7 := K7n
            clear K7n
            have K1n := Lib.hid (K1.out.far q1 (by omega))
            clear K1
            have K1 := K1n
            clear K1n
            have K2n := Lib.hid (K2.out.far q1 (by omega))
            clear K2
            have K2 := K2n
            clear K2n
            have K3n := Lib.hid (K3.out.far q1 (by omega))
            clear K3
            have K3 := K3n
            clear K3n
            have HBn := Lib.hid (HB.out.trans (q1.2.1 _ (by omega)))
            clear HB
            have HB := HBn
            clear HBn
            clear q1 hS
            have hS := (And.intro K1.out (And.intro K2.out (And.intro K3.out HB.out)))
            clear hS
            refine wpAnyH_done (by kernel_rfl) ?_ _
            go_wp2_with fail
            go_meet
            case rel => exact ⟨M2, M2_4, A1, c1, L1, A2, c2, L2, rfl, rfl, K7, K8, Lib.hid (own_rd HXL.out), Lib.hid (own_rd HXH.out), HSL, HSH, K1, K2, K3, HB⟩
        · skip
          intro W8 k1 b1 s1
          refine ⟨⟨hS.1.below b1 hS.1.lt, hS.2.1.below b1 hS.2.1.lt, hS.2.2.1.below b1 hS.2.2.1.lt, hS.2.2.2.trans (b1.mono hS.2.2.2.size)⟩, ?_⟩
          simp only [Act.put, List.setIfInBounds_toArray, List.set_cons_zero, List.set_cons_succ]
          have K8 := Lib.hid k1
          clear k1
          have lt_N1_M2 : N1 < M2 := by rw [← HM2.out]; exact K1.out.lt
          have lt_N2_M2 : N2 < M2 := by rw [← HM2.out]; exact K2.out.lt
          have lt_N3_M2 : N3 < M2 := by rw [← HM2.out]; exact K3.out.lt
          have le_HB_M2 : w.heap.size ≤ M2 := by rw [← HM2.out]; exact HB.out.size
          have HXLn := Lib.hid (HXL.out.below b1)
          clear HXL
          have HXL := HXLn
          clear HXLn
          have HXHn := Lib.hid (HXH.out.below b1)
          clear HXH
          have HXH := HXHn
          clear HXHn
          have K1n := Lib.hid (K1.out.below b1 K1.out.lt)
          clear K1
          have K1 := K1n
          clear K1n
          have K2n := Lib.hid (K2.out.below b1 K2.out.lt)
          clear K2
          have K2 := K2n
          clear K2n
          have K3n := Lib.hid (K3.out.below b1 K3.out.lt)
          clear K3
          have K3 := K3n
          clear K3n
          have HBn := Lib.hid (HB.out.trans (b1.mono HB.out.size))
          clear HB
          have HB := HBn
          clear HBn
          clear b1 HM2 hS
          have hS := (And.intro K1.out (And.intro K2.out (And.intro K3.out HB.out)))
          obtain ⟨M2_5, hM2_5⟩ : ∃ N, W8.heap.size = N := ⟨_, rfl⟩
          have HM2_5 := Lib.hid hM2_5
          clear hM2_5
          refine takeMk (i := 4) (some 9) 32 (loC lo0) rfl rfl (by kernel_rfl) (by rfl) rfl zero_loP M2_5 HM2_5.out ?_
          · skip
            intro W9 k1 b1 s1
            refine ⟨⟨hS.1.below b1 hS.1.lt, hS.2.1.below b1 hS.2.1.lt, hS.2.2.1.below b1 hS.2.2.1.lt, hS.2.2.2.trans (b1.mono hS.2.2.2.size)⟩, ?_⟩
            simp only [Act.put, List.setIfInBounds_toArray, List.set_cons_zero, List.set_cons_succ]
            have K7 := Lib.hid k1
            clear k1
            have lt_N1_M2_5 : N1 < M2_5 := by rw [← HM2_5.out]; exact K1.out.lt
            have lt_N2_M2_5 : N2 < M2_5 := by rw [← HM2_5.out]; exact K2.out.lt
            have lt_N3_M2_5 : N3 < M2_5 := by rw [← HM2_5.out]; exact K3.out.lt
            have lt_M2_M2_5 : M2 < M2_5 := by rw [← HM2_5.out]; exact K8.out.lt
            have le_HB_M2_5 : w.heap.size ≤ M2_5 := by rw [← HM2_5.out]; exact HB.out.size
            have HXLn := Lib.hid (HXL.out.below b1)
            clear HXL
            have HXL := HXLn
            clear HXLn
            have HXHn := Lib.hid (HXH.out.below b1)
            clear HXH
            have HXH := HXHn
            clear HXHn
            have K8n := Lib.hid (K8.out.below b1 K8.out.lt)
            clear K8
            have K8 := K8n
            clear K8n
            have K1n := Lib.hid (K1.out.below b1 K1.out.lt)
            clear K1
            have K1 := K1n
            clear K1n
            have K2n := Lib.hid (K2.out.below b1 K2.out.lt)
            clear K2
            have K2 := K2n
            clear K2n
            have K3n := Lib.hid (K3.out.below b1 K3.out.lt)
            clear K3
            have K3 := K3n
            clear K3n
            have HBn := Lib.hid (HB.out.trans (b1.mono HB.out.size))
            clear HB
            have HB := HBn
            clear HBn
            clear b1 HM2_5 hS
            have hS := (And.intro K1.out (And.intro K2.out (And.intro K3.out HB.out)))
            refine takeSt (i := 6) 32 (.tmp 9) (.tmp 18) M2_5 0 (.agg (loC ⟨l.s, l.nu, l.lv, A1, l.m, c1⟩)) (loC ⟨l.s, l.nu, l.lv, A1, l.m, c1⟩) (loC ⟨l.s, l.nu, l.lv, A1, l.m, c1⟩) rfl rfl (by kernel_rfl) (by rfl) rfl rfl rfl rfl info_loP (loC_one _) K7.out (Nat.le_of_ble_eq_true rfl) (by kernel_rfl) ?_
            intro W10 q1
            refine ⟨⟨K1.out.far q1 (by omega), K2.out.far q1 (by omega), K3.out.far q1 (by omega), HB.out.trans (q1.2.1 _ (by omega))⟩, ?_⟩
            simp only [Act.put, List.setIfInBounds_toArray, List.set_cons_zero, List.set_cons_succ]
            have HXLn := Lib.hid (HXL.out.farT K7.out ne_a ne_b q1)
            clear HXL
            have HXL := HXLn
            clear HXLn
            have HXHn := Lib.hid (HXH.out.farT K7.out ne_a ne_b q1)
            clear HXH
            have HXH := HXHn
            clear HXHn
            have K7n : Hid (Blk 32 W10 M2_5 (loC ⟨l.s, l.nu, l.lv, A1, l.m, c1⟩)) := Lib.hid q1.1
            clear K7
            have K7 := K7n
            clear K7n
            have K8n := Lib.hid (K8.out.far q1 (by omega))
            clear K8
            have K8 := K8n
            clear K8n
            have K1n := Lib.hid (K1.out.far q1 (by omega))
            clear K1
            have K1 := K1n
            clear K1n
            have K2n := Lib.hid (K2.out.far q1 (by omega))
            clear K2
            have K2 := K2n
            clear K2n
            have K3n := Lib.hid (K3.out.far q1 (by omega))
            clear K3
            have K3 := K3n
            clear K3n
            have HBn := Lib.hid (HB.out.trans (q1.2.1 _ (by omega)))
            clear HB
            have HB := HBn
            clear HBn
            clear q1 hS
            have hS := (And.intro K1.out (And.intro K2.out (And.intro K3.out HB.out)))
            refine takeSt (i := 7) 34 (.tmp 10) (.tmp 20) M2 0 (.agg (heC ⟨h.s, h.nu, h.lv, h.ho, A2, h.m, c2, h.st, h.nm, h.th, h.tn⟩)) (heC ⟨h.s, h.nu, h.lv, h.ho, A2, h.m, c2, h.st, h.nm, h.th, h.tn⟩) (heC ⟨h.s, h.nu, h.lv, h.ho, A2, h.m, c2, h.st, h.nm, h.th, h.tn⟩) rfl rfl (by kernel_rfl) (by rfl) rfl rfl rfl rfl info_heP (heC_one _) K8.out (Nat.le_of_ble_eq_true rfl) (by kernel_rfl) ?_
            intro W11 q1
            refine ⟨⟨K1.out.far q1 (by omega), K2.out.far q1 (by omega), K3.out.far q1 (by omega), HB.out.trans (q1.2.1 _ (by omega))⟩, ?_⟩
            simp only [Act.put, List.setIfInBounds_toArray, List.set_cons_zero, List.set_cons_succ]
            have HXLn := Lib.hid (HXL.out.farT K8.out ne_c ne_d q1)
            clear HXL
            have HXL := HXLn
            clear HXLn
            have HXHn := Lib.hid (HXH.out.farT K8.out ne_c ne_d q1)
            clear HXH
            have HXH := HXHn
            clear HXHn
            have K8n : Hid (Blk 34 W11 M2 (heC ⟨h.s, h.nu, h.lv, h.ho, A2, h.m, c2, h.st, h.nm, h.th, h.tn⟩)) := Lib.hid q1.1
            clear K8
            have K8 := K8n
            clear K8n
            have K7n := Lib.hid (K7.out.far q1 (by omega))
            clear K7
            have K7 := K7n
            clear K7n
            have K1n := Lib.hid (K1.out.far q1 (by omega))
            clear K1
            have K1 := K1n
            clear K1n
            have K2n := Lib.hid (K2.out.far q1 (by omega))
            clear K2
            have K2 := K2n
            clear K2n
            have K3n := Lib.hid (K3.out.far q1 (by omega))
            clear K3
            have K3 := K3n
            clear K3n
            have HBn := Lib.hid (HB.out.trans (q1.2.1 _ (by omega)))
            clear HB
            have HB := HBn
            clear HBn
            clear q1 hS
            have hS := (And.intro K1.out (And.intro K2.out (And.intro K3.out HB.out)))
            clear hS
            refine wpAnyH_done (by kernel_rfl) ?_ _
            go_wp2_with fail
            go_meet
            case rel => exact ⟨M2_5, M2, A1, c1, L1, A2, c2, L2, rfl, rfl, K7, K8, Lib.hid (own_rd HXL.out), Lib.hid (own_rd HXH.out), HSL, HSH, K1, K2, K3, HB⟩
      · skip
        intro W7 k1 b1 s1
        refine ⟨⟨hS.1.below b1 hS.1.lt, hS.2.1.below b1 hS.2.1.lt, hS.2.2.1.below b1 hS.2.2.1.lt, hS.2.2.2.trans (b1.mono hS.2.2.2.size)⟩, ?_⟩
        simp only [Act.put, List.setIfInBounds_toArray, List.set_cons_zero, List.set_cons_succ]
        have K7 := Lib.hid k1
        clear k1
        have lt_N1_M1 : N1 < M1 := by rw [← HM1.out]; exact K1.out.lt
        have lt_N2_M1 : N2 < M1 := by rw [← HM1.out]; exact K2.out.lt
        have lt_N3_M1 : N3 < M1 := by rw [← HM1.out]; exact K3.out.lt
        have le_HB_M1 : w.heap.size ≤ M1 := by rw [← HM1.out]; exact HB.out.size
        have HXLn := Lib.hid (HXL.out.below b1)
        clear HXL
        have HXL := HXLn
        clear HXLn
        have K1n := Lib.hid (K1.out.below b1 K1.out.lt)
        clear K1
        have K1 := K1n
        clear K1n
        have K2n := Lib.hid (K2.out.below b1 K2.out.lt)
        clear K2
        have K2 := K2n
        clear K2n
        have K3n := Lib.hid (K3.out.below b1 K3.out.lt)
        clear K3
        have K3 := K3n
        clear K3n
        have HBn := Lib.hid (HB.out.trans (b1.mono HB.out.size))
        clear HB
        have HB := HBn
        clear HBn
        clear b1 HM1 hS
        have hS := (And.intro K1.out (And.intro K2.out (And.intro K3.out HB.out)))
        obtain ⟨M1_4, hM1_4⟩ : ∃ N, W7.heap.size = N := ⟨_, rfl⟩
        have HM1_4 := Lib.hid hM1_4
        clear hM1_4
        refine wpAnyH_ready (show Region.ready _ _ _ = [3, 5] from by kernel_rfl) (by simp) (consCE (i := 3) (some 20) 12 #[.agg (heC h)] (R := fun v w' => HelO W7 h H v w') rfl rfl (by rfl) (by go_simp) (hello_o h H W7 (HRH.out.below HB.out) HMH.out) (fun v w' h => by obtain ⟨A2, c2, L2, rfl, hr1, hs1, hb1⟩ := h; exact ⟨hS.1.below hb1 hS.1.lt, hS.2.1.below hb1 hS.2.1.lt, hS.2.2.1.below hb1 hS.2.2.1.lt, hS.2.2.2.trans (hb1.mono hS.2.2.2.size)⟩) ?_ (consMk (i := 5) (some 10) 34 (heC he0) rfl rfl (by rfl) rfl zero_heP M1_4 HM1_4.out ?_ AllReadyH.nil))
        · skip
          clear HM1_4
          intro v W8 h hS2
          obtain ⟨A2, c2, L2, rfl, hr1, hs1, hb1⟩ := h
          simp only [Act.put, List.setIfInBounds_toArray, List.set_cons_zero, List.set_cons_succ]
          have HXLn := Lib.hid (HXL.out.below hb1)
          clear HXL
          have HXL := HXLn
          clear HXLn
          have K7n := Lib.hid (K7.out.below hb1 K7.out.lt)
          clear K7
          have K7 := K7n
          clear K7n
          clear K1
          clear K2
          clear K3
          clear HB
          clear hS
          have hS := hS2
          clear hS2
          have K1 := Lib.hid hS.1
          have K2 := Lib.hid hS.2.1
          have K3 := Lib.hid hS.2.2.1
          have HB := Lib.hid hS.2.2.2
          have HXH := Lib.hid hr1
          have HSH := Lib.hid hs1
          clear hr1 hs1 hb1
          obtain ⟨M2_4, hM2_4⟩ : ∃ N, W8.heap.size = N := ⟨_, rfl⟩
          have HM2_4 := Lib.hid hM2_4
          clear hM2_4
          refine takeMk (i := 5) (some 10) 34 (heC he0) rfl rfl (by kernel_rfl) (by rfl) rfl zero_heP M2_4 HM2_4.out ?_
          · skip
            intro W9 k1 b1 s1
            refine ⟨⟨hS.1.below b1 hS.1.lt, hS.2.1.below b1 hS.2.1.lt, hS.2.2.1.below b1 hS.2.2.1.lt, hS.2.2.2.trans (b1.mono hS.2.2.2.size)⟩, ?_⟩
            simp only [Act.put, List.setIfInBounds_toArray, List.set_cons_zero, List.set_cons_succ]
            have K8 := Lib.hid k1
            clear k1
            have lt_N1_M2_4 : N1 < M2_4 := by rw [← HM2_4.out]; exact K1.out.lt
            have lt_N2_M2_4 : N2 < M2_4 := by rw [← HM2_4.out]; exact K2.out.lt
            have lt_N3_M2_4 : N3 < M2_4 := by rw [← HM2_4.out]; exact K3.out.lt
            have lt_M1_M2_4 : M1 < M2_4 := by rw [← HM2_4.out]; exact K7.out.lt
            have le_HB_M2_4 : w.heap.size ≤ M2_4 := by rw [← HM2_4.out]; exact HB.out.size
            have HXLn := Lib.hid (HXL.out.below b1)
            clear HXL
            have HXL := HXLn
            clear HXLn
            have HXHn := Lib.hid (HXH.out.below b1)
            clear HXH
            have HXH := HXHn
            clear HXHn
            have K7n := Lib.hid (K7.out.below b1 K7.out.lt)
            clear K7
            have K7 := K7n
            clear K7n
            have K1n := Lib.hid (K1.out.below b1 K1.out.lt)
            clear K1
            have K1 := K1n
            clear K1n
            have K2n := Lib.hid (K2.out.below b1 K2.out.lt)
            clear K2
            have K2 := K2n
            clear K2n
            have K3n := Lib.hid (K3.out.below b1 K3.out.lt)
            clear K3
            have K3 := K3n
            clear K3n
            have HBn := Lib.hid (HB.out.trans (b1.mono HB.out.size))
            clear HB
            have HB := HBn
            clear HBn
            clear b1 HM2_4 hS
            have hS := (And.intro K1.out (And.intro K2.out (And.intro K3.out HB.out)))
            refine takeSt (i := 6) 32 (.tmp 9) (.tmp 18) M1 0 (.agg (loC ⟨l.s, l.nu, l.lv, A1, l.m, c1⟩)) (loC ⟨l.s, l.nu, l.lv, A1, l.m, c1⟩) (loC ⟨l.s, l.nu, l.lv, A1, l.m, c1⟩) rfl rfl (by kernel_rfl) (by rfl) rfl rfl rfl rfl info_loP (loC_one _) K7.out (Nat.le_of_ble_eq_true rfl) (by kernel_rfl) ?_
            intro W10 q1
            refine ⟨⟨K1.out.far q1 (by omega), K2.out.far q1 (by omega), K3.out.far q1 (by omega), HB.out.trans (q1.2.1 _ (by omega))⟩, ?_⟩
            simp only [Act.put, List.setIfInBounds_toArray, List.set_cons_zero, List.set_cons_succ]
            have HXLn := Lib.hid (HXL.out.farT K7.out ne_a ne_b q1)
            clear HXL
            have HXL := HXLn
            clear HXLn
            have HXHn := Lib.hid (HXH.out.farT K7.out ne_a ne_b q1)
            clear HXH
            have HXH := HXHn
            clear HXHn
            have K7n : Hid (Blk 32 W10 M1 (loC ⟨l.s, l.nu, l.lv, A1, l.m, c1⟩)) := Lib.hid q1.1
            clear K7
            have K7 := K7n
            clear K7n
            have K8n := Lib.hid (K8.out.far q1 (by omega))
            clear K8
            have K8 := K8n
            clear K8n
            have K1n := Lib.hid (K1.out.far q1 (by omega))
            clear K1
            have K1 := K1n
            clear K1n
            have K2n := Lib.hid (K2.out.far q1 (by omega))
            clear K2
            have K2 := K2n
            clear K2n
            have K3n := Lib.hid (K3.out.far q1 (by omega))
            clear K3
            have K3 := K3n
            clear K3n
            have HBn := Lib.hid (HB.out.trans (q1.2.1 _ (by omega)))
            clear HB
            have HB := HBn
            clear HBn
            clear q1 hS
            have hS := (And.intro K1.out (And.intro K2.out (And.intro K3.out HB.out)))
            refine takeSt (i := 7) 34 (.tmp 10) (.tmp 20) M2_4 0 (.agg (heC ⟨h.s, h.nu, h.lv, h.ho, A2, h.m, c2, h.st, h.nm, h.th, h.tn⟩)) (heC ⟨h.s, h.nu, h.lv, h.ho, A2, h.m, c2, h.st, h.nm, h.th, h.tn⟩) (heC ⟨h.s, h.nu, h.lv, h.ho, A2, h.m, c2, h.st, h.nm, h.th, h.tn⟩) rfl rfl (by kernel_rfl) (by rfl) rfl rfl rfl rfl info_heP (heC_one _) K8.out (Nat.le_of_ble_eq_true rfl) (by kernel_rfl) ?_
            intro W11 q1
            refine ⟨⟨K1.out.far q1 (by omega), K2.out.far q1 (by omega), K3.out.far q1 (by omega), HB.out.trans (q1.2.1 _ (by omega))⟩, ?_⟩
            simp only [Act.put, List.setIfInBounds_toArray, List.set_cons_zero, List.set_cons_succ]
            have HXLn := Lib.hid (HXL.out.farT K8.out ne_c ne_d q1)
            clear HXL
            have HXL := HXLn
            clear HXLn
            have HXHn := Lib.hid (HXH.out.farT K8.out ne_c ne_d q1)
            clear HXH
            have HXH := HXHn
            clear HXHn
            have K8n : Hid (Blk 34 W11 M2_4 (heC ⟨h.s, h.nu, h.lv, h.ho, A2, h.m, c2, h.st, h.nm, h.th, h.tn⟩)) := Lib.hid q1.1
            clear K8
            have K8 := K8n
            clear K8n
            have K7n := Lib.hid (K7.out.far q1 (by omega))
            clear K7
            have K7 := K7n
            clear K7n
            have K1n := Lib.hid (K1.out.far q1 (by omega))
            clear K1
            have K1 := K1n
            clear K1n
            have K2n := Lib.hid (K2.out.far q1 (by omega))
            clear K2
            have K2 := K2n
            clear K2n
            have K3n := Lib.hid (K3.out.far q1 (by omega))
            clear K3
            have K3 := K3n
            clear K3n
            have HBn := Lib.hid (HB.out.trans (q1.2.1 _ (by omega)))
            clear HB
            have HB := HBn
            clear HBn
            clear q1 hS
            have hS := (And.intro K1.out (And.intro K2.out (And.intro K3.out HB.out)))
            clear hS
            refine wpAnyH_done (by kernel_rfl) ?_ _
            go_wp2_with fail
            go_meet
            case rel => exact ⟨M1, M2_4, A1, c1, L1, A2, c2, L2, rfl, rfl, K7, K8, Lib.hid (own_rd HXL.out), Lib.hid (own_rd HXH.out), HSL, HSH, K1, K2, K3, HB⟩
        · skip
          intro W8 k1 b1 s1
          refine ⟨⟨hS.1.below b1 hS.1.lt, hS.2.1.below b1 hS.2.1.lt, hS.2.2.1.below b1 hS.2.2.1.lt, hS.2.2.2.trans (b1.mono hS.2.2.2.size)⟩, ?_⟩
          simp only [Act.put, List.setIfInBounds_toArray, List.set_cons_zero, List.set_cons_succ]
          have K8 := Lib.hid k1
          clear k1
          have lt_N1_M1_4 : N1 < M1_4 := by rw [← HM1_4.out]; exact K1.out.lt
          have lt_N2_M1_4 : N2 < M1_4 := by rw [← HM1_4.out]; exact K2.out.lt
          have lt_N3_M1_4 : N3 < M1_4 := by rw [← HM1_4.out]; exact K3.out.lt
          have lt_M1_M1_4 : M1 < M1_4 := by rw [← HM1_4.out]; exact K7.out.lt
          have le_HB_M1_4 : w.heap.size ≤ M1_4 := by rw [← HM1_4.out]; exact HB.out.size
          have HXLn := Lib.hid (HXL.out.below b1)
          clear HXL
          have HXL := HXLn
          clear HXLn
          have K7n := Lib.hid (K7.out.below b1 K7.out.lt)
          clear K7
          have K7 := K7n
          clear K7n
          have K1n := Lib.hid (K1.out.below b1 K1.out.lt)
          clear K1
          have K1 := K1n
          clear K1n
          have K2n := Lib.hid (K2.out.below b1 K2.out.lt)
          clear K2
          have K2 := K2n
          clear K2n
          have K3n := Lib.hid (K3.out.below b1 K3.out.lt)
          clear K3
          have K3 := K3n
          clear K3n
          have HBn := Lib.hid (HB.out.trans (b1.mono HB.out.size))
          clear HB
          have HB := HBn
          clear HBn
          clear b1 HM1_4 hS
          have hS := (And.intro K1.out (And.intro K2.out (And.intro K3.out HB.out)))
          refine takeCE (i := 3) (some 20) 12 #[.agg (heC h)] (R := fun v w' => HelO W8 h H v w') rfl rfl (by kernel_rfl) (by rfl) (by go_simp) (hello_o h H W8 (HRH.out.below HB.out) HMH.out) (fun v w' h => by obtain ⟨A2, c2, L2, rfl, hr1, hs1, hb1⟩ := h; exact ⟨hS.1.below hb1 hS.1.lt, hS.2.1.below hb1 hS.2.1.lt, hS.2.2.1.below hb1 hS.2.2.1.lt, hS.2.2.2.trans (hb1.mono hS.2.2.2.size)⟩) ?_
          · skip
            intro v W9 h hS2
            obtain ⟨A2, c2, L2, rfl, hr1, hs1, hb1⟩ := h
            simp only [Act.put, List.setIfInBounds_toArray, List.set_cons_zero, List.set_cons_succ]
            have HXLn := Lib.hid (HXL.out.below hb1)
            clear HXL
            have HXL := HXLn
            clear HXLn
            have K7n := Lib.hid (K7.out.below hb1 K7.out.lt)
            clear K7
            have K7 := K7n
            clear K7n
            have K8n := Lib.hid (K8.out.below hb1 K8.out.lt)
            clear K8
            have K8 := K8n
            clear K8n
            clear K1
            clear K2
            clear K3
            clear HB
            clear hS
            have hS := hS2
            clear hS2
            have K1 := Lib.hid hS.1
            have K2 := Lib.hid hS.2.1
            have K3 := Lib.hid hS.2.2.1
            have HB := Lib.hid hS.2.2.2
            have HXH := Lib.hid hr1
            have HSH := Lib.hid hs1
            clear hr1 hs1 hb1
            refine takeSt (i := 6) 32 (.tmp 9) (.tmp 18) M1 0 (.agg (loC ⟨l.s, l.nu, l.lv, A1, l.m, c1⟩)) (loC ⟨l.s, l.nu, l.lv, A1, l.m, c1⟩) (loC ⟨l.s, l.nu, l.lv, A1, l.m, c1⟩) rfl rfl (by kernel_rfl) (by rfl) rfl rfl rfl rfl info_loP (loC_one _) K7.out (Nat.le_of_ble_eq_true rfl) (by kernel_rfl) ?_
            intro W10 q1
            refine ⟨⟨K1.out.far q1 (by omega), K2.out.far q1 (by omega), K3.out.far q1 (by omega), HB.out.trans (q1.2.1 _ (by omega))⟩, ?_⟩
            simp only [Act.put, List.setIfInBounds_toArray, List.set_cons_zero, List.set_cons_succ]
            have HXLn := Lib.hid (HXL.out.farT K7.out ne_a ne_b q1)
            clear HXL
            have HXL := HXLn
            clear HXLn
            have HXHn := Lib.hid (HXH.out.farT K7.out ne_a ne_b q1)
            clear HXH
            have HXH := HXHn
            clear HXHn
            have K7n : Hid (Blk 32 W10 M1 (loC ⟨l.s, l.nu, l.lv, A1, l.m, c1⟩)) := Lib.hid q1.1
            clear K7
            have K7 := K7n
            clear K7n
            have K8n := Lib.hid (K8.out.far q1 (by omega))
            clear K8
            have K8 := K8n
            clear K8n
            have K1n := Lib.hid (K1.out.far q1 (by omega))
            clear K1
            have K1 := K1n
            clear K1n
            have K2n := Lib.hid (K2.out.far q1 (by omega))
            clear K2
            have K2 := K2n
            clear K2n
            have K3n := Lib.hid (K3.out.far q1 (by omega))
            clear K3
            have K3 := K3n
            clear K3n
            have HBn := Lib.hid (HB.out.trans (q1.2.1 _ (by omega)))
            clear HB
            have HB := HBn
            clear HBn
            clear q1 hS
            have hS := (And.intro K1.out (And.intro K2.out (And.intro K3.out HB.out)))
            refine takeSt (i := 7) 34 (.tmp 10) (.tmp 20) M1_4 0 (.agg (heC ⟨h.s, h.nu, h.lv, h.ho, A2, h.m, c2, h.st, h.nm, h.th, h.tn⟩)) (heC ⟨h.s, h.nu, h.lv, h.ho, A2, h.m, c2, h.st, h.nm, h.th, h.tn⟩) (heC ⟨h.s, h.nu, h.lv, h.ho, A2, h.m, c2, h.st, h.nm, h.th, h.tn⟩) rfl rfl (by kernel_rfl) (by rfl) rfl rfl rfl rfl info_heP (heC_one _) K8.out (Nat.le_of_ble_eq_true rfl) (by kernel_rfl) ?_
            intro W11 q1
            refine ⟨⟨K1.out.far q1 (by omega), K2.out.far q1 (by omega), K3.out.far q1 (by omega), HB.out.trans (q1.2.1 _ (by omega))⟩, ?_⟩
            simp only [Act.put, List.setIfInBounds_toArray, List.set_cons_zero, List.set_cons_succ]
            have HXLn := Lib.hid (HXL.out.farT K8.out ne_c ne_d q1)
            clear HXL
            have HXL := HXLn
            clear HXLn
            have HXHn := Lib.hid (HXH.out.farT K8.out ne_c ne_d q1)
            clear HXH
            have HXH := HXHn
            clear HXHn
            have K8n : Hid (Blk 34 W11 M1_4 (heC ⟨h.s, h.nu, h.lv, h.ho, A2, h.m, c2, h.st, h.nm, h.th, h.tn⟩)) := Lib.hid q1.1
            clear K8
            have K8 := K8n
            clear K8n
            have K7n := Lib.hid (K7.out.far q1 (by omega))
            clear K7
            have K7 := K7n
            clear K7n
            have K1n := Lib.hid (K1.out.far q1 (by omega))
            clear K1
            have K1 := K1n
            clear K1n
            have K2n := Lib.hid (K2.out.far q1 (by omega))
            clear K2
            have K2 := K2n
            clear K2n
            have K3n := Lib.hid (K3.out.far q1 (by omega))
            clear K3
            have K3 := K3n
            clear K3n
            have HBn := Lib.hid (HB.out.trans (q1.2.1 _ (by omega)))
            clear HB
            have HB := HBn
            clear HBn
            clear q1 hS
            have hS := (And.intro K1.out (And.intro K2.out (And.intro K3.out HB.out)))
            clear hS
            refine wpAnyH_done (by kernel_rfl) ?_ _
            go_wp2_with fail
            go_meet
            case rel => exact ⟨M1, M1_4, A1, c1, L1, A2, c2, L2, rfl, rfl, K7, K8, Lib.hid (own_rd HXL.out), Lib.hid (own_rd HXH.out), HSL, HSH, K1, K2, K3, HB⟩
      · skip
        intro W7 k1 b1 s1
        refine ⟨⟨hS.1.below b1 hS.1.lt, hS.2.1.below b1 hS.2.1.lt, hS.2.2.1.below b1 hS.2.2.1.lt, hS.2.2.2.trans (b1.mono hS.2.2.2.size)⟩, ?_⟩
        simp only [Act.put, List.setIfInBounds_toArray, List.set_cons_zero, List.set_cons_succ]
        have K8 := Lib.hid k1
        clear k1
        have lt_N1_M1 : N1 < M1 := by rw [← HM1.out]; exact K1.out.lt
        have lt_N2_M1 : N2 < M1 := by rw [← HM1.out]; exact K2.out.lt
        have lt_N3_M1 : N3 < M1 := by rw [← HM1.out]; exact K3.out.lt
        have le_HB_M1 : w.heap.size ≤ M1 := by rw [← HM1.out]; exact HB.out.size
        have HXLn := Lib.hid (HXL.out.below b1)
        clear HXL
        have HXL := HXLn
        clear HXLn
        have K1n := Lib.hid (K1.out.below b1 K1.out.lt)
        clear K1
        have K1 := K1n
        clear K1n
        have K2n := Lib.hid (K2.out.below b1 K2.out.lt)
        clear K2
        have K2 := K2n
        clear K2n
        have K3n := Lib.hid (K3.out.below b1 K3.out.lt)
        clear K3
        have K3 := K3n
        clear K3n
        have HBn := Lib.hid (HB.out.trans (b1.mono HB.out.size))
        clear HB
        have HB := HBn
        clear HBn
        clear b1 HM1 hS
        have hS := (And.intro K1.out (And.intro K2.out (And.intro K3.out HB.out)))
        obtain ⟨M1_5, hM1_5⟩ : ∃ N, W7.heap.size = N := ⟨_, rfl⟩
        have HM1_5 := Lib.hid hM1_5
        clear hM1_5
        refine wpAnyH_ready (show Region.ready _ _ _ = [3, 4] from by kernel_rfl) (by simp) (consCE (i := 3) (some 20) 12 #[.agg (heC h)] (R := fun v w' => HelO W7 h H v w') rfl rfl (by rfl) (by go_simp) (hello_o h H W7 (HRH.out.below HB.out) HMH.out) (fun v w' h => by obtain ⟨A2, c2, L2, rfl, hr1, hs1, hb1⟩ := h; exact ⟨hS.1.below hb1 hS.1.lt, hS.2.1.below hb1 hS.2.1.lt, hS.2.2.1.below hb1 hS.2.2.1.lt, hS.2.2.2.trans (hb1.mono hS.2.2.2.size)⟩) ?_ (consMk (i := 4) (some 9) 32 (loC lo0) rfl rfl (by rfl) rfl zero_loP M1_5 HM1_5.out ?_ AllReadyH.nil))
        · skip
          clear HM1_5
          intro v W8 h hS2
          obtain ⟨A2, c2, L2, rfl, hr1, hs1, hb1⟩ := h
          simp only [Act.put, List.setIfInBounds_toArray, List.set_cons_zero, List.set_cons_succ]
          have HXLn := Lib.hid (HXL.out.below hb1)
          clear HXL
          have HXL := HXLn
          clear HXLn
          have K8n := Lib.hid (K8.out.below hb1 K8.out.lt)
          clear K8
          have K8 := K8n
          clear K8n
          clear K1
          clear K2
          clear K3
          clear HB
          clear hS
          have hS := hS2
          clear hS2
          have K1 := Lib.hid hS.1
          have K2 := Lib.hid hS.2.1
          have K3 := Lib.hid hS.2.2.1
          have HB := Lib.hid hS.2.2.2
          have HXH := Lib.hid hr1
          have HSH := Lib.hid hs1
          clear hr1 hs1 hb1
          obtain ⟨M2_5, hM2_5⟩ : ∃ N, W8.heap.size = N := ⟨_, rfl⟩
          have HM2_5 := Lib.hid hM2_5
          clear hM2_5
          refine takeMk (i := 4) (some 9) 32 (loC lo0) rfl rfl (by kernel_rfl) (by rfl) rfl zero_loP M2_5 HM2_5.out ?_
          · skip
            intro W9 k1 b1 s1
            refine ⟨⟨hS.1.below b1 hS.1.lt, hS.2.1.below b1 hS.2.1.lt, hS.2.2.1.below b1 hS.2.2.1.lt, hS.2.2.2.trans (b1.mono hS.2.2.2.size)⟩, ?_⟩
            simp only [Act.put, List.setIfInBounds_toArray, List.set_cons_zero, List.set_cons_succ]
            have K7 := Lib.hid k1
            clear k1
            have lt_N1_M2_5 : N1 < M2_5 := by rw [← HM2_5.out]; exact K1.out.lt
            have lt_N2_M2_5 : N2 < M2_5 := by rw [← HM2_5.out]; exact K2.out.lt
            have lt_N3_M2_5 : N3 < M2_5 := by rw [← HM2_5.out]; exact K3.out.lt
            have lt_M1_M2_5 : M1 < M2_5 := by rw [← HM2_5.out]; exact K8.out.lt
            have le_HB_M2_5 : w.heap.size ≤ M2_5 := by rw [← HM2_5.out]; exact HB.out.size
            have HXLn := Lib.hid (HXL.out.below b1)
            clear HXL
            have HXL := HXLn
            clear HXLn
            have HXHn := Lib.hid (HXH.out.below b1)
            clear HXH
            have HXH := HXHn
            clear HXHn
            have K8n := Lib.hid (K8.out.below b1 K8.out.lt)
            clear K8
            have K8 := K8n
            clear K8n
            have K1n := Lib.hid (K1.out.below b1 K1.out.lt)
            clear K1
            have K1 := K1n
            clear K1n
            have K2n := Lib.hid (K2.out.below b1 K2.out.lt)
            clear K2
            have K2 := K2n
            clear K2n
            have K3n := Lib.hid (K3.out.below b1 K3.out.lt)
            clear K3
            have K3 := K3n
            clear K3n
            have HBn := Lib.hid (HB.out.trans (b1.mono HB.out.size))
            clear HB
            have HB := HBn
            clear HBn
            clear b1 HM2_5 hS
            have hS := (And.intro K1.out (And.intro K2.out (And.intro K3.out HB.out)))
            refine takeSt (i := 6) 32 (.tmp 9) (.tmp 18) M2_5 0 (.agg (loC ⟨l.s, l.nu, l.lv, A1, l.m, c1⟩)) (loC ⟨l.s, l.nu, l.lv, A1, l.m, c1⟩) (loC ⟨l.s, l.nu, l.lv, A1, l.m, c1⟩) rfl rfl (by kernel_rfl) (by rfl) rfl rfl rfl rfl info_loP (loC_one _) K7.out (Nat.le_of_ble_eq_true rfl) (by kernel_rfl) ?_
            intro W10 q1
            refine ⟨⟨K1.out.far q1 (by omega), K2.out.far q1 (by omega), K3.out.far q1 (by omega), HB.out.trans (q1.2.1 _ (by omega))⟩, ?_⟩
            simp only [Act.put, List.setIfInBounds_toArray, List.set_cons_zero, List.set_cons_succ]
            have HXLn := Lib.hid (HXL.out.farT K7.out ne_a ne_b q1)
            clear HXL
            have HXL := HXLn
            clear HXLn
            have HXHn := Lib.hid (HXH.out.farT K7.out ne_a ne_b q1)
            clear HXH
            have HXH := HXHn
            clear HXHn
            have K7n : Hid (Blk 32 W10 M2_5 (loC ⟨l.s, l.nu, l.lv, A1, l.m, c1⟩)) := Lib.hid q1.1
            clear K7
            have K7 := K7n
            clear K7n
            have K8n := Lib.hid (K8.out.far q1 (by omega))
            clear K8
            have K8 := K8n
            clear K8n
            have K1n := Lib.hid (K1.out.far q1 (by omega))
            clear K1
            have K1 := K1n
            clear K1n
            have K2n := Lib.hid (K2.out.far q1 (by omega))
            clear K2
            have K2 := K2n
            clear K2n
            have K3n := Lib.hid (K3.out.far q1 (by omega))
            clear K3
            have K3 := K3n
            clear K3n
            have HBn := Lib.hid (HB.out.trans (q1.2.1 _ (by omega)))
            clear HB
            have HB := HBn
            clear HBn
            clear q1 hS
            have hS := (And.intro K1.out (And.intro K2.out (And.intro K3.out HB.out)))
            refine takeSt (i := 7) 34 (.tmp 10) (.tmp 20) M1 0 (.agg (heC ⟨h.s, h.nu, h.lv, h.ho, A2, h.m, c2, h.st, h.nm, h.th, h.tn⟩)) (heC ⟨h.s, h.nu, h.lv, h.ho, A2, h.m, c2, h.st, h.nm, h.th, h.tn⟩) (heC ⟨h.s, h.nu, h.lv, h.ho, A2, h.m, c2, h.st, h.nm, h.th, h.tn⟩) rfl rfl (by kernel_rfl) (by rfl) rfl rfl rfl rfl info_heP (heC_one _) K8.out (Nat.le_of_ble_eq_true rfl) (by kernel_rfl) ?_
            intro W11 q1
            refine ⟨⟨K1.out.far q1 (by omega), K2.out.far q1 (by omega), K3.out.far q1 (by omega), HB.out.trans (q1.2.1 _ (by omega))⟩, ?_⟩
            simp only [Act.put, List.setIfInBounds_toArray, List.set_cons_zero, List.set_cons_succ]
            have HXLn := Lib.hid (HXL.out.farT K8.out ne_c ne_d q1)
            clear HXL
            have HXL := HXLn
            clear HXLn
            have HXHn := Lib.hid (HXH.out.farT K8.out ne_c ne_d q1)
            clear HXH
            have HXH := HXHn
            clear HXHn
            have K8n : Hid (Blk 34 W11 M1 (heC ⟨h.s, h.nu, h.lv, h.ho, A2, h.m, c2, h.st, h.nm, h.th, h.tn⟩)) := Lib.hid q1.1
            clear K8
            have K8 := K8n
            clear K8n
            have K7n := Lib.hid (K7.out.far q1 (by omega))
            clear K7
            have K7 := K7n
            clear K7n
            have K1n := Lib.hid (K1.out.far q1 (by omega))
            clear K1
            have K1 := K1n
            clear K1n
            have K2n := Lib.hid (K2.out.far q1 (by omega))
            clear K2
            have K2 := K2n
            clear K2n
            have K3n := Lib.hid (K3.out.far q1 (by omega))
            clear K3
            have K3 := K3n
            clear K3n
            have HBn := Lib.hid (HB.out.trans (q1.2.1 _ (by omega)))
            clear HB
            have HB := HBn
            clear HBn
            clear q1 hS
            have hS := (And.intro K1.out (And.intro K2.out (And.intro K3.out HB.out)))
            clear hS
            refine wpAnyH_done (by kernel_rfl) ?_ _
            go_wp2_with fail
            go_meet
            case rel => exact ⟨M2_5, M1, A1, c1, L1, A2, c2, L2, rfl, rfl, K7, K8, Lib.hid (own_rd HXL.out), Lib.hid (own_rd HXH.out), HSL, HSH, K1, K2, K3, HB⟩
        · skip
          intro W8 k1 b1 s1
          refine ⟨⟨hS.1.below b1 hS.1.lt, hS.2.1.below b1 hS.2.1.lt, hS.2.2.1.below b1 hS.2.2.1.lt, hS.2.2.2.trans (b1.mono hS.2.2.2.size)⟩, ?_⟩
          simp only [Act.put, List.setIfInBounds_toArray, List.set_cons_zero, List.set_cons_succ]
          have K7 := Lib.hid k1
          clear k1
          have lt_N1_M1_5 : N1 < M1_5 := by rw [← HM1_5.out]; exact K1.out.lt
          have lt_N2_M1_5 : N2 < M1_5 := by rw [← HM1_5.out]; exact K2.out.lt
          have lt_N3_M1_5 : N3 < M1_5 := by rw [← HM1_5.out]; exact K3.out.lt
          have lt_M1_M1_5 : M1 < M1_5 := by rw [← HM1_5.out]; exact K8.out.lt
          have le_HB_M1_5 : w.heap.size ≤ M1_5 := by rw [← HM1_5.out]; exact HB.out.size
          have HXLn := Lib.hid (HXL.out.below b1)
          clear HXL
          have HXL := HXLn
          clear HXLn
          have K8n := Lib.hid (K8.out.below b1 K8.out.lt)
          clear K8
          have K8 := K8n
          clear K8n
          have K1n := Lib.hid (K1.out.below b1 K1.out.lt)
          clear K1
          have K1 := K1n
          clear K1n
          have K2n := Lib.hid (K2.out.below b1 K2.out.lt)
          clear K2
          have K2 := K2n
          clear K2n
          have K3n := Lib.hid (K3.out.below b1 K3.out.lt)
          clear K3
          have K3 := K3n
          clear K3n
          have HBn := Lib.hid (HB.out.trans (b1.mono HB.out.size))
          clear HB
          have HB := HBn
          clear HBn
          clear b1 HM1_5 hS
          have hS := (And.intro K1.out (And.intro K2.out (And.intro K3.out HB.out)))
          refine takeCE (i := 3) (some 20) 12 #[.agg (heC h)] (R := fun v w' => HelO W8 h H v w') rfl rfl (by kernel_rfl) (by rfl) (by go_simp) (hello_o h H W8 (HRH.out.below HB.out) HMH.out) (fun v w' h => by obtain ⟨A2, c2, L2, rfl, hr1, hs1, hb1⟩ := h; exact ⟨hS.1.below hb1 hS.1.lt, hS.2.1.below hb1 hS.2.1.lt, hS.2.2.1.below hb1 hS.2.2.1.lt, hS.2.2.2.trans (hb1.mono hS.2.2.2.size)⟩) ?_
          · skip
            intro v W9 h hS2
            obtain ⟨A2, c2, L2, rfl, hr1, hs1, hb1⟩ := h
            simp only [Act.put, List.setIfInBounds_toArray, List.set_cons_zero, List.set_cons_succ]
            have HXLn := Lib.hid (HXL.out.below hb1)
            clear HXL
            have HXL := HXLn
            clear HXLn
            have K8n := Lib.hid (K8.out.below hb1 K8.out.lt)
            clear K8
            have K8 := K8n
            clear K8n
            have K7n := Lib.hid (K7.out.below hb1 K7.out.lt)
            clear K7
            have K7 := K7n
            clear K7n
            clear K1
            clear K2
            clear K3
            clear HB
            clear hS
            have hS := hS2
            clear hS2
            have K1 := Lib.hid hS.1
            have K2 := Lib.hid hS.2.1
            have K3 := Lib.hid hS.2.2.1
            have HB := Lib.hid hS.2.2.2
            have HXH := Lib.hid hr1
            have HSH := Lib.hid hs1
            clear hr1 hs1 hb1
            refine takeSt (i := 6) 32 (.tmp 9) (.tmp 18) M1_5 0 (.agg (loC ⟨l.s, l.nu, l.lv, A1, l.m, c1⟩)) (loC ⟨l.s, l.nu, l.lv, A1, l.m, c1⟩) (loC ⟨l.s, l.nu, l.lv, A1, l.m, c1⟩) rfl rfl (by kernel_rfl) (by rfl) rfl rfl rfl rfl info_loP (loC_one _) K7.out (Nat.le_of_ble_eq_true rfl) (by kernel_rfl) ?_
            intro W10 q1
            refine ⟨⟨K1.out.far q1 (by omega), K2.out.far q1 (by omega), K3.out.far q1 (by omega), HB.out.trans (q1.2.1 _ (by omega))⟩, ?_⟩
            simp only [Act.put, List.setIfInBounds_toArray, List.set_cons_zero, List.set_cons_succ]
            have HXLn := Lib.hid (HXL.out.farT K7.out ne_a ne_b q1)
            clear HXL
            have HXL := HXLn
            clear HXLn
            have HXHn := Lib.hid (HXH.out.farT K7.out ne_a ne_b q1)
            clear HXH
            have HXH := HXHn
            clear HXHn
            have K7n : Hid (Blk 32 W10 M1_5 (loC ⟨l.s, l.nu, l.lv, A1, l.m, c1⟩)) := Lib.hid q1.1
            clear K7
            have K7 := K7n
            clear K7n
            have K8n := Lib.hid (K8.out.far q1 (by omega))
            clear K8
            have K8 := K8n
            clear K8n
            have K1n := Lib.hid (K1.out.far q1 (by omega))
            clear K1
            have K1 := K1n
            clear K1n
            have K2n := Lib.hid (K2.out.far q1 (by omega))
            clear K2
            have K2 := K2n
            clear K2n
            have K3n := Lib.hid (K3.out.far q1 (by omega))
            clear K3
            have K3 := K3n
            clear K3n
            have HBn := Lib.hid (HB.out.trans (q1.2.1 _ (by omega)))
            clear HB
            have HB := HBn
            clear HBn
            clear q1 hS
            have hS := (And.intro K1.out (And.intro K2.out (And.intro K3.out HB.out)))
            refine takeSt (i := 7) 34 (.tmp 10) (.tmp 20) M1 0 (.agg (heC ⟨h.s, h.nu, h.lv, h.ho, A2, h.m, c2, h.st, h.nm, h.th, h.tn⟩)) (heC ⟨h.s, h.nu, h.lv, h.ho, A2, h.m, c2, h.st, h.nm, h.th, h.tn⟩) (heC ⟨h.s, h.nu, h.lv, h.ho, A2, h.m, c2, h.st, h.nm, h.th, h.tn⟩) rfl rfl (by kernel_rfl) (by rfl) rfl rfl rfl rfl info_heP (heC_one _) K8.out (Nat.le_of_ble_eq_true rfl) (by kernel_rfl) ?_
            intro W11 q1
            refine ⟨⟨K1.out.far q1 (by omega), K2.out.far q1 (by omega), K3.out.far q1 (by omega), HB.out.trans (q1.2.1 _ (by omega))⟩, ?_⟩
            simp only [Act.put, List.setIfInBounds_toArray, List.set_cons_zero, List.set_cons_succ]
            have HXLn := Lib.hid (HXL.out.farT K8.out ne_c ne_d q1)
            clear HXL
            have HXL := HXLn
            clear HXLn
            have HXHn := Lib.hid (HXH.out.farT K8.out ne_c ne_d q1)
            clear HXH
            have HXH := HXHn
            clear HXHn
            have K8n : Hid (Blk 34 W11 M1 (heC ⟨h.s, h.nu, h.lv, h.ho, A2, h.m, c2, h.st, h.nm, h.th, h.tn⟩)) := Lib.hid q1.1
            clear K8
            have K8 := K8n
            clear K8n
            have K7n := Lib.hid (K7.out.far q1 (by omega))
            clear K7
            have K7 := K7n
            clear K7n
            have K1n := Lib.hid (K1.out.far q1 (by omega))
            clear K1
            have K1 := K1n
            clear K1n
            have K2n := Lib.hid (K2.out.far q1 (by omega))
            clear K2
            have K2 := K2n
            clear K2n
            have K3n := Lib.hid (K3.out.far q1 (by omega))
            clear K3
            have K3 := K3n
            clear K3n
            have HBn := Lib.hid (HB.out.trans (q1.2.1 _ (by omega)))
            clear HB
            have HB := HBn
            clear HBn
            clear q1 hS
            have hS := (And.intro K1.out (And.intro K2.out (And.intro K3.out HB.out)))
            clear hS
            refine wpAnyH_done (by kernel_rfl) ?_ _
            go_wp2_with fail
            go_meet
            case rel => exact ⟨M1_5, M1, A1, c1, L1, A2, c2, L2, rfl, rfl, K7, K8, Lib.hid (own_rd HXL.out), Lib.hid (own_rd HXH.out), HSL, HSH, K1, K2, K3, HB⟩
    · skip
      intro W6 k1 b1 s1
      refine ⟨⟨hS.1.below b1 hS.1.lt, hS.2.1.below b1 hS.2.1.lt, hS.2.2.1.below b1 hS.2.2.1.lt, hS.2.2.2.trans (b1.mono hS.2.2.2.size)⟩, ?_⟩
      simp only [Act.put, List.setIfInBounds_toArray, List.set_cons_zero, List.set_cons_succ]
      have K7 := Lib.hid k1
      clear k1
      have lt_N1_M0 : N1 < M0 := by rw [← HM0.out]; exact K1.out.lt
      have lt_N2_M0 : N2 < M0 := by rw [← HM0.out]; exact K2.out.lt
      have lt_N3_M0 : N3 < M0 := by rw [← HM0.out]; exact K3.out.lt
      have le_HB_M0 : w.heap.size ≤ M0 := by rw [← HM0.out]; exact HB.out.size
      have K1n := Lib.hid (K1.out.below b1 K1.out.lt)
      clear K1
      have K1 := K1n
      clear K1n
      have K2n := Lib.hid (K2.out.below b1 K2.out.lt)
      clear K2
      have K2 := K2n
      clear K2n
      have K3n := Lib.hid (K3.out.below b1 K3.out.lt)
      clear K3
      have K3 := K3n
      clear K3n
      have HBn := Lib.hid (HB.out.trans (b1.mono HB.out.size))
      clear HB
      have HB := HBn
      clear HBn
      clear b1 HM0 hS
      have hS := (And.intro K1.out (And.intro K2.out (And.intro K3.out HB.out)))
      obtain ⟨M0_4, hM0_4⟩ : ∃ N, W6.heap.size = N := ⟨_, rfl⟩
      have HM0_4 := Lib.hid hM0_4
      clear hM0_4
      refine wpAnyH_ready (show Region.ready _ _ _ = [1, 5] from by kernel_rfl) (by simp) (consCE (i := 1) (some 18) 11 #[.agg (loC l)] (R := fun v w' => LocO W6 l L v w') rfl rfl (by rfl) (by go_simp) (local_o l L W6 (HRL.out.below HB.out) HML.out) (fun v w' h => by obtain ⟨A1, c1, L1, rfl, hr1, hs1, hb1⟩ := h; exact ⟨hS.1.below hb1 hS.1.lt, hS.2.1.below hb1 hS.2.1.lt, hS.2.2.1.below hb1 hS.2.2.1.lt, hS.2.2.2.trans (hb1.mono hS.2.2.2.size)⟩) ?_ (consMk (i := 5) (some 10) 34 (heC he0) rfl rfl (by rfl) rfl zero_heP M0_4 HM0_4.out ?_ AllReadyH.nil))
      · skip
        clear HM0_4
        intro v W7 h hS2
        obtain ⟨A1, c1, L1, rfl, hr1, hs1, hb1⟩ := h
        simp only [Act.put, List.setIfInBounds_toArray, List.set_cons_zero, List.set_cons_succ]
        have K7n := Lib.hid (K7.out.below hb1 K7.out.lt)
        clear K7
        have K7 := K7n
        clear K7n
        clear K1
        clear K2
        clear K3
        clear HB
        clear hS
        have hS := hS2
        clear hS2
        have K1 := Lib.hid hS.1
        have K2 := Lib.hid hS.2.1
        have K3 := Lib.hid hS.2.2.1
        have HB := Lib.hid hS.2.2.2
        have HXL := Lib.hid hr1
        have HSL := Lib.hid hs1
        clear hr1 hs1 hb1
        obtain ⟨M1_4, hM1_4⟩ : ∃ N, W7.heap.size = N := ⟨_, rfl⟩
        have HM1_4 := Lib.hid hM1_4
        clear hM1_4
        refine wpAnyH_ready (show Region.ready _ _ _ = [3, 5] from by kernel_rfl) (by simp) (consCE (i := 3) (some 20) 12 #[.agg (heC h)] (R := fun v w' => HelO W7 h H v w') rfl rfl (by rfl) (by go_simp) (hello_o h H W7 (HRH.out.below HB.out) HMH.out) (fun v w' h => by obtain ⟨A2, c2, L2, rfl, hr1, hs1, hb1⟩ := h; exact ⟨hS.1.below hb1 hS.1.lt, hS.2.1.below hb1 hS.2.1.lt, hS.2.2.1.below hb1 hS.2.2.1.lt, hS.2.2.2.trans (hb1.mono hS.2.2.2.size)⟩) ?_ (consMk (i := 5) (some 10) 34 (heC he0) rfl rfl (by rfl) rfl zero_heP M1_4 HM1_4.out ?_ AllReadyH.nil))
        · skip
          clear HM1_4
          intro v W8 h hS2
          obtain ⟨A2, c2, L2, rfl, hr1, hs1, hb1⟩ := h
          simp only [Act.put, List.setIfInBounds_toArray, List.set_cons_zero, List.set_cons_succ]
          have HXLn := Lib.hid (HXL.out.below hb1)
          clear HXL
          have HXL := HXLn
          clear HXLn
          have K7n := Lib.hid (K7.out.below hb1 K7.out.lt)
          clear K7
          have K7 := K7n
          clear K7n
          clear K1
          clear K2
          clear K3
          clear HB
          clear hS
          have hS := hS2
          clear hS2
          have K1 := Lib.hid hS.1
          have K2 := Lib.hid hS.2.1
          have K3 := Lib.hid hS.2.2.1
          have HB := Lib.hid hS.2.2.2
          have HXH := Lib.hid hr1
          have HSH := Lib.hid hs1
          clear hr1 hs1 hb1
          obtain ⟨M2_4, hM2_4⟩ : ∃ N, W8.heap.size = N := ⟨_, rfl⟩
          have HM2_4 := Lib.hid hM2_4
          clear hM2_4
          refine takeMk (i := 5) (some 10) 34 (heC he0) rfl rfl (by kernel_rfl) (by rfl) rfl zero_heP M2_4 HM2_4.out ?_
          · skip
            intro W9 k1 b1 s1
            refine ⟨⟨hS.1.below b1 hS.1.lt, hS.2.1.below b1 hS.2.1.lt, hS.2.2.1.below b1 hS.2.2.1.lt, hS.2.2.2.trans (b1.mono hS.2.2.2.size)⟩, ?_⟩
            simp only [Act.put, List.setIfInBounds_toArray, List.set_cons_zero, List.set_cons_succ]
            have K8 := Lib.hid k1
            clear k1
            have lt_N1_M2_4 : N1 < M2_4 := by rw [← HM2_4.out]; exact K1.out.lt
            have lt_N2_M2_4 : N2 < M2_4 := by rw [← HM2_4.out]; exact K2.out.lt
            have lt_N3_M2_4 : N3 < M2_4 := by rw [← HM2_4.out]; exact K3.out.lt
            have lt_M0_M2_4 : M0 < M2_4 := by rw [← HM2_4.out]; exact K7.out.lt
            have le_HB_M2_4 : w.heap.size ≤ M2_4 := by rw [← HM2_4.out]; exact HB.out.size
            have HXLn := Lib.hid (HXL.out.below b1)
            clear HXL
            have HXL := HXLn
            clear HXLn
            have HXHn := Lib.hid (HXH.out.below b1)
            clear HXH
            have HXH := HXHn
            clear HXHn
            have K7n := Lib.hid (K7.out.below b1 K7.out.lt)
            clear K7
            have K7 := K7n
            clear K7n
            have K1n := Lib.hid (K1.out.below b1 K1.out.lt)
            clear K1
            have K1 := K1n
            clear K1n
            have K2n := Lib.hid (K2.out.below b1 K2.out.lt)
            clear K2
            have K2 := K2n
            clear K2n
            have K3n := Lib.hid (K3.out.below b1 K3.out.lt)
            clear K3
            have K3 := K3n
            clear K3n
            have HBn := Lib.hid (HB.out.trans (b1.mono HB.out.size))
            clear HB
            have HB := HBn
            clear HBn
            clear b1 HM2_4 hS
            have hS := (And.intro K1.out (And.intro K2.out (And.intro K3.out HB.out)))
            refine takeSt (i := 6) 32 (.tmp 9) (.tmp 18) M0 0 (.agg (loC ⟨l.s, l.nu, l.lv, A1, l.m, c1⟩)) (loC ⟨l.s, l.nu, l.lv, A1, l.m, c1⟩) (loC ⟨l.s, l.nu, l.lv, A1, l.m, c1⟩) rfl rfl (by kernel_rfl) (by rfl) rfl rfl rfl rfl info_loP (loC_one _) K7.out (Nat.le_of_ble_eq_true rfl) (by kernel_rfl) ?_
            intro W10 q1
            refine ⟨⟨K1.out.far q1 (by omega), K2.out.far q1 (by omega), K3.out.far q1 (by omega), HB.out.trans (q1.2.1 _ (by omega))⟩, ?_⟩
            simp only [Act.put, List.setIfInBounds_toArray, List.set_cons_zero, List.set_cons_succ]
            have HXLn := Lib.hid (HXL.out.farT K7.out ne_a ne_b q1)
            clear HXL
            have HXL := HXLn
            clear HXLn
            have HXHn := Lib.hid (HXH.out.farT K7.out ne_a ne_b q1)
            clear HXH
            have HXH := HXHn
            clear HXHn
            have K7n : Hid (Blk 32 W10 M0 (loC ⟨l.s, l.nu, l.lv, A1, l.m, c1⟩)) := Lib.hid q1.1
            clear K7
            have K7 := K7n
            clear K7n
            have K8n := Lib.hid (K8.out.far q1 (by omega))
            clear K8
            have K8 := K8n
            clear K8n
            have K1n := Lib.hid (K1.out.far q1 (by omega))
            clear K1
            have K1 := K1n
            clear K1n
            have K2n := Lib.hid (K2.out.far q1 (by omega))
            clear K2
            have K2 := K2n
            clear K2n
            have K3n := Lib.hid (K3.out.far q1 (by omega))
            clear K3
            have K3 := K3n
            clear K3n
            have HBn := Lib.hid (HB.out.trans (q1.2.1 _ (by omega)))
            clear HB
            have HB := HBn
            clear HBn
            clear q1 hS
            have hS := (And.intro K1.out (And.intro K2.out (And.intro K3.out HB.out)))
            refine takeSt (i := 7) 34 (.tmp 10) (.tmp 20) M2_4 0 (.agg (heC ⟨h.s, h.nu, h.lv, h.ho, A2, h.m, c2, h.st, h.nm, h.th, h.tn⟩)) (heC ⟨h.s, h.nu, h.lv, h.ho, A2, h.m, c2, h.st, h.nm, h.th, h.tn⟩) (heC ⟨h.s, h.nu, h.lv, h.ho, A2, h.m, c2, h.st, h.nm, h.th, h.tn⟩) rfl rfl (by kernel_rfl) (by rfl) rfl rfl rfl rfl info_heP (heC_one _) K8.out (Nat.le_of_ble_eq_true rfl) (by kernel_rfl) ?_
            intro W11 q1
            refine ⟨⟨K1.out.far q1 (by omega), K2.out.far q1 (by omega), K3.out.far q1 (by omega), HB.out.trans (q1.2.1 _ (by omega))⟩, ?_⟩
            simp only [Act.put, List.setIfInBounds_toArray, List.set_cons_zero, List.set_cons_succ]
            have HXLn := Lib.hid (HXL.out.farT K8.out ne_c ne_d q1)
            clear HXL
            have HXL := HXLn
            clear HXLn
            have HXHn := Lib.hid (HXH.out.farT K8.out ne_c ne_d q1)
            clear HXH
            have HXH := HXHn
            clear HXHn
            have K8n : Hid (Blk 34 W11 M2_4 (heC ⟨h.s, h.nu, h.lv, h.ho, A2, h.m, c2, h.st, h.nm, h.th, h.tn⟩)) := Lib.hid q1.1
            clear K8
            have K8 := K8n
            clear K8n
            have K7n := Lib.hid (K7.out.far q1 (by omega))
            clear K7
            have K7 := K7n
            clear K7n
            have K1n := Lib.hid (K1.out.far q1 (by omega))
            clear K1
            have K1 := K1n
            clear K1n
            have K2n := Lib.hid (K2.out.far q1 (by omega))
            clear K2
            have K2 := K2n
            clear K2n
            have K3n := Lib.hid (K3.out.far q1 (by omega))
            clear K3
            have K3 := K3n
            clear K3n
            have HBn := Lib.hid (HB.out.trans (q1.2.1 _ (by omega)))
            clear HB
            have HB := HBn
            clear HBn
            clear q1 hS
            have hS := (And.intro K1.out (And.intro K2.out (And.intro K3.out HB.out)))
            clear hS
            refine wpAnyH_done (by kernel_rfl) ?_ _
            go_wp2_with fail
            go_meet
            case rel => exact ⟨M0, M2_4, A1, c1, L1, A2, c2, L2, rfl, rfl, K7, K8, Lib.hid (own_rd HXL.out), Lib.hid (own_rd HXH.out), HSL, HSH, K1, K2, K3, HB⟩
        · skip
          intro W8 k1 b1 s1
          refine ⟨⟨hS.1.below b1 hS.1.lt, hS.2.1.below b1 hS.2.1.lt, hS.2.2.1.below b1 hS.2.2.1.lt, hS.2.2.2.trans (b1.mono hS.2.2.2.size)⟩, ?_⟩
          simp only [Act.put, List.setIfInBounds_toArray, List.set_cons_zero, List.set_cons_succ]
          have K8 := Lib.hid k1
          clear k1
          have lt_N1_M1_4 : N1 < M1_4 := by rw [← HM1_4.out]; exact K1.out.lt
          have lt_N2_M1_4 : N2 < M1_4 := by rw [← HM1_4.out]; exact K2.out.lt
          have lt_N3_M1_4 : N3 < M1_4 := by rw [← HM1_4.out]; exact K3.out.lt
          have lt_M0_M1_4 : M0 < M1_4 := by rw [← HM1_4.out]; exact K7.out.lt
          have le_HB_M1_4 : w.heap.size ≤ M1_4 := by rw [← HM1_4.out]; exact HB.out.size
          have HXLn := Lib.hid (HXL.out.below b1)
          clear HXL
          have HXL := HXLn
          clear HXLn
          have K7n := Lib.hid (K7.out.below b1 K7.out.lt)
          clear K7
          have K7 := K7n
          clear K7n
          have K1n := Lib.hid (K1.out.below b1 K1.out.lt)
          clear K1
          have K1 := K1n
          clear K1n
          have K2n := Lib.hid (K2.out.below b1 K2.out.lt)
          clear K2
          have K2 := K2n
          clear K2n
          have K3n := Lib.hid (K3.out.below b1 K3.out.lt)
          clear K3
          have K3 := K3n
          clear K3n
          have HBn := Lib.hid (HB.out.trans (b1.mono HB.out.size))
          clear HB
          have HB := HBn
          clear HBn
          clear b1 HM1_4 hS
          have hS := (And.intro K1.out (And.intro K2.out (And.intro K3.out HB.out)))
          refine takeCE (i := 3) (some 20) 12 #[.agg (heC h)] (R := fun v w' => HelO W8 h H v w') rfl rfl (by kernel_rfl) (by rfl) (by go_simp) (hello_o h H W8 (HRH.out.below HB.out) HMH.out) (fun v w' h => by obtain ⟨A2, c2, L2, rfl, hr1, hs1, hb1⟩ := h; exact ⟨hS.1.below hb1 hS.1.lt, hS.2.1.below hb1 hS.2.1.lt, hS.2.2.1.below hb1 hS.2.2.1.lt, hS.2.2.2.trans (hb1.mono hS.2.2.2.size)⟩) ?_
          · skip
            intro v W9 h hS2
            obtain ⟨A2, c2, L2, rfl, hr1, hs1, hb1⟩ := h
            simp only [Act.put, List.setIfInBounds_toArray, List.set_cons_zero, List.set_cons_succ]
            have HXLn := Lib.hid (HXL.out.below hb1)
            clear HXL
            have HXL := HXLn
            clear HXLn
            have K7n := Lib.hid (K7.out.below hb1 K7.out.lt)
            clear K7
            have K7 := K7n
            clear K7n
            have K8n := Lib.hid (K8.out.below hb1 K8.out.lt)
            clear K8
            have K8 := K8n
            clear K8n
            clear K1
            clear K2
            clear K3
            clear HB
            clear hS
            have hS := hS2
            clear hS2
            have K1 := Lib.hid hS.1
            have K2 := Lib.hid hS.2.1
            have K3 := Lib.hid hS.2.2.1
            have HB := Lib.hid hS.2.2.2
            have HXH := Lib.hid hr1
            have HSH := Lib.hid hs1
            clear hr1 hs1 hb1
            refine takeSt (i := 6) 32 (.tmp 9) (.tmp 18) M0 0 (.agg (loC ⟨l.s, l.nu, l.lv, A1, l.m, c1⟩)) (loC ⟨l.s, l.nu, l.lv, A1, l.m, c1⟩) (loC ⟨l.s, l.nu, l.lv, A1, l.m, c1⟩) rfl rfl (by kernel_rfl) (by rfl) rfl rfl rfl rfl info_loP (loC_one _) K7.out (Nat.le_of_ble_eq_true rfl) (by kernel_rfl) ?_
            intro W10 q1
            refine ⟨⟨K1.out.far q1 (by omega), K2.out.far q1 (by omega), K3.out.far q1 (by omega), HB.out.trans (q1.2.1 _ (by omega))⟩, ?_⟩
            simp only [Act.put, List.setIfInBounds_toArray, List.set_cons_zero, List.set_cons_succ]
            have HXLn := Lib.hid (HXL.out.farT K7.out ne_a ne_b q1)
            clear HXL
            have HXL := HXLn
            clear HXLn
            have HXHn := Lib.hid (HXH.out.farT K7.out ne_a ne_b q1)
            clear HXH
            have HXH := HXHn
            clear HXHn
            have K7n : Hid (Blk 32 W10 M0 (loC ⟨l.s, l.nu, l.lv, A1, l.m, c1⟩)) := Lib.hid q1.1
            clear K7
            have K7 := K7n
            clear K7n
            have K8n := Lib.hid (K8.out.far q1 (by omega))
            clear K8
            have K8 := K8n
            clear K8n
            have K1n := Lib.hid (K1.out.far q1 (by omega))
            clear K1
            have K1 := K1n
            clear K1n
            have K2n := Lib.hid (K2.out.far q1 (by omega))
            clear K2
            have K2 := K2n
            clear K2n
            have K3n := Lib.hid (K3.out.far q1 (by omega))
            clear K3
            have K3 := K3n
            clear K3n
            have HBn := Lib.hid (HB.out.trans (q1.2.1 _ (by omega)))
            clear HB
            have HB := HBn
            clear HBn
            clear q1 hS
            have hS := (And.intro K1.out (And.intro K2.out (And.intro K3.out HB.out)))
            refine takeSt (i := 7) 34 (.tmp 10) (.tmp 20) M1_4 0 (.agg (heC ⟨h.s, h.nu, h.lv, h.ho, A2, h.m, c2, h.st, h.nm, h.th, h.tn⟩)) (heC ⟨h.s, h.nu, h.lv, h.ho, A2, h.m, c2, h.st, h.nm, h.th, h.tn⟩) (heC ⟨h.s, h.nu, h.lv, h.ho, A2, h.m, c2, h.st, h.nm, h.th, h.tn⟩) rfl rfl (by kernel_rfl) (by rfl) rfl rfl rfl rfl info_heP (heC_one _) K8.out (Nat.le_of_ble_eq_true rfl) (by kernel_rfl) ?_
            intro W11 q1
            refine ⟨⟨K1.out.far q1 (by omega), K2.out.far q1 (by omega), K3.out.far q1 (by omega), HB.out.trans (q1.2.1 _ (by omega))⟩, ?_⟩
            simp only [Act.put, List.setIfInBounds_toArray, List.set_cons_zero, List.set_cons_succ]
            have HXLn := Lib.hid (HXL.out.farT K8.out ne_c ne_d q1)
            clear HXL
            have HXL := HXLn
            clear HXLn
            have HXHn := Lib.hid (HXH.out.farT K8.out ne_c ne_d q1)
            clear HXH
            have HXH := HXHn
            clear HXHn
            have K8n : Hid (Blk 34 W11 M1_4 (heC ⟨h.s, h.nu, h.lv, h.ho, A2, h.m, c2, h.st, h.nm, h.th, h.tn⟩)) := Lib.hid q1.1
            clear K8
            have K8 := K8n
            clear K8n
            have K7n := Lib.hid (K7.out.far q1 (by omega))
            clear K7
            have K7 := K7n
            clear K7n
            have K1n := Lib.hid (K1.out.far q1 (by omega))
            clear K1
            have K1 := K1n
            clear K1n
            have K2n := Lib.hid (K2.out.far q1 (by omega))
            clear K2
            have K2 := K2n
            clear K2n
            have K3n := Lib.hid (K3.out.far q1 (by omega))
            clear K3
            have K3 := K3n
            clear K3n
            have HBn := Lib.hid (HB.out.trans (q1.2.1 _ (by omega)))
            clear HB
            have HB := HBn
            clear HBn
            clear q1 hS
            have hS := (And.intro K1.out (And.intro K2.out (And.intro K3.out HB.out)))
            clear hS
            refine wpAnyH_done (by kernel_rfl) ?_ _
            go_wp2_with fail
            go_meet
            case rel => exact ⟨M0, M1_4, A1, c1, L1, A2, c2, L2, rfl, rfl, K7, K8, Lib.hid (own_rd HXL.out), Lib.hid (own_rd HXH.out), HSL, HSH, K1, K2, K3, HB⟩
      · skip
        intro W7 k1 b1 s1
        refine ⟨⟨hS.1.below b1 hS.1.lt, hS.2.1.below b1 hS.2.1.lt, hS.2.2.1.below b1 hS.2.2.1.lt, hS.2.2.2.trans (b1.mono hS.2.2.2.size)⟩, ?_⟩
        simp only [Act.put, List.setIfInBounds_toArray, List.set_cons_zero, List.set_cons_succ]
        have K8 := Lib.hid k1
        clear k1
        have lt_N1_M0_4 : N1 < M0_4 := by rw [← HM0_4.out]; exact K1.out.lt
        have lt_N2_M0_4 : N2 < M0_4 := by rw [← HM0_4.out]; exact K2.out.lt
        have lt_N3_M0_4 : N3 < M0_4 := by rw [← HM0_4.out]; exact K3.out.lt
        have lt_M0_M0_4 : M0 < M0_4 := by rw [← HM0_4.out]; exact K7.out.lt
        have le_HB_M0_4 : w.heap.size ≤ M0_4 := by rw [← HM0_4.out]; exact HB.out.size
        have K7n := Lib.hid (K7.out.below b1 K7.out.lt)
        clear K7
        have K7 := K7n
        clear K7n
        have K1n := Lib.hid (K1.out.below b1 K1.out.lt)
        clear K1
        have K1 := K1n
        clear K1n
        have K2n := Lib.hid (K2.out.below b1 K2.out.lt)
        clear K2
        have K2 := K2n
        clear K2n
        have K3n := Lib.hid (K3.out.below b1 K3.out.lt)
        clear K3
        have K3 := K3n
        clear K3n
        have HBn := Lib.hid (HB.out.trans (b1.mono HB.out.size))
        clear HB
        have HB := HBn
        clear HBn
        clear b1 HM0_4 hS
        have hS := (And.intro K1.out (And.intro K2.out (And.intro K3.out HB.out)))
        refine takeCE (i := 1) (some 18) 11 #[.agg (loC l)] (R := fun v w' => LocO W7 l L v w') rfl rfl (by kernel_rfl) (by rfl) (by go_simp) (local_o l L W7 (HRL.out.below HB.out) HML.out) (fun v w' h => by obtain ⟨A1, c1, L1, rfl, hr1, hs1, hb1⟩ := h; exact ⟨hS.1.below hb1 hS.1.lt, hS.2.1.below hb1 hS.2.1.lt, hS.2.2.1.below hb1 hS.2.2.1.lt, hS.2.2.2.trans (hb1.mono hS.2.2.2.size)⟩) ?_
        · skip
          intro v W8 h hS2
          obtain ⟨A1, c1, L1, rfl, hr1, hs1, hb1⟩ := h
          simp only [Act.put, List.setIfInBounds_toArray, List.set_cons_zero, List.set_cons_succ]
          have K7n := Lib.hid (K7.out.below hb1 K7.out.lt)
          clear K7
          have K7 := K7n
          clear K7n
          have K8n := Lib.hid (K8.out.below hb1 K8.out.lt)
          clear K8
          have K8 := K8n
          clear K8n
          clear K1
          clear K2
          clear K3
          clear HB
          clear hS
          have hS := hS2
          clear hS2
          have K1 := Lib.hid hS.1
          have K2 := Lib.hid hS.2.1
          have K3 := Lib.hid hS.2.2.1
          have HB := Lib.hid hS.2.2.2
          have HXL := Lib.hid hr1
          have HSL := Lib.hid hs1
          clear hr1 hs1 hb1
          refine takeCE (i := 3) (some 20) 12 #[.agg (heC h)] (R := fun v w' => HelO W8 h H v w') rfl rfl (by kernel_rfl) (by rfl) (by go_simp) (hello_o h H W8 (HRH.out.below HB.out) HMH.out) (fun v w' h => by obtain ⟨A2, c2, L2, rfl, hr1, hs1, hb1⟩ := h; exact ⟨hS.1.below hb1 hS.1.lt, hS.2.1.below hb1 hS.2.1.lt, hS.2.2.1.below hb1 hS.2.2.1.lt, hS.2.2.2.trans (hb1.mono hS.2.2.2.size)⟩) ?_
          · skip
            intro v W9 h hS2
            obtain ⟨A2, c2, L2, rfl, hr1, hs1, hb1⟩ := h
            simp only [Act.put, List.setIfInBounds_toArray, List.set_cons_zero, List.set_cons_succ]
            have HXLn := Lib.hid (HXL.out.below hb1)
            clear HXL
            have HXL := HXLn
            clear HXLn
            have K7n := Lib.hid (K7.out.below hb1 K7.out.lt)
            clear K7
            have K7 := K7n
            clear K7n
            have K8n := Lib.hid (K8.out.below hb1 K8.out.lt)
            clear K8
            have K8 := K8n
            clear K8n
            clear K1
            clear K2
            clear K3
            clear HB
            clear hS
            have hS := hS2
            clear hS2
            have K1 := Lib.hid hS.1
            have K2 := Lib.hid hS.2.1
            have K3 := Lib.hid hS.2.2.1
            have HB := Lib.hid hS.2.2.2
            have HXH := Lib.hid hr1
            have HSH := Lib.hid hs1
            clear hr1 hs1 hb1
            refine takeSt (i := 6) 32 (.tmp 9) (.tmp 18) M0 0 (.agg (loC ⟨l.s, l.nu, l.lv, A1, l.m, c1⟩)) (loC ⟨l.s, l.nu, l.lv, A1, l.m, c1⟩) (loC ⟨l.s, l.nu, l.lv, A1, l.m, c1⟩) rfl rfl (by kernel_rfl) (by rfl) rfl rfl rfl rfl info_loP (loC_one _) K7.out (Nat.le_of_ble_eq_true rfl) (by kernel_rfl) ?_
            intro W10 q1
            refine ⟨⟨K1.out.far q1 (by omega), K2.out.far q1 (by omega), K3.out.far q1 (by omega), HB.out.trans (q1.2.1 _ (by omega))⟩, ?_⟩
            simp only [Act.put, List.setIfInBounds_toArray, List.set_cons_zero, List.set_cons_succ]
            have HXLn := Lib.hid (HXL.out.farT K7.out ne_a ne_b q1)
            clear HXL
            have HXL := HXLn
            clear HXLn
            have HXHn := Lib.hid (HXH.out.farT K7.out ne_a ne_b q1)
            clear HXH
            have HXH := HXHn
            clear HXHn
            have K7n : Hid (Blk 32 W10 M0 (loC ⟨l.s, l.nu, l.lv, A1, l.m, c1⟩)) := Lib.hid q1.1
            clear K7
            have K7 := K7n
            clear K7n
            have K8n := Lib.hid (K8.out.far q1 (by omega))
            clear K8
            have K8 := K8n
            clear K8n
            have K1n := Lib.hid (K1.out.far q1 (by omega))
            clear K1
            have K1 := K1n
            clear K1n
            have K2n := Lib.hid (K2.out.far q1 (by omega))
            clear K2
            have K2 := K2n
            clear K2n
            have K3n := Lib.hid (K3.out.far q1 (by omega))
            clear K3
            have K3 := K3n
            clear K3n
            have HBn := Lib.hid (HB.out.trans (q1.2.1 _ (by omega)))
            clear HB
            have HB := HBn
            clear HBn
            clear q1 hS
            have hS := (And.intro K1.out (And.intro K2.out (And.intro K3.out HB.out)))
            refine takeSt (i := 7) 34 (.tmp 10) (.tmp 20) M0_4 0 (.agg (heC ⟨h.s, h.nu, h.lv, h.ho, A2, h.m, c2, h.st, h.nm, h.th, h.tn⟩)) (heC ⟨h.s, h.nu, h.lv, h.ho, A2, h.m, c2, h.st, h.nm, h.th, h.tn⟩) (heC ⟨h.s, h.nu, h.lv, h.ho, A2, h.m, c2, h.st, h.nm, h.th, h.tn⟩) rfl rfl (by kernel_rfl) (by rfl) rfl rfl rfl rfl info_heP (heC_one _) K8.out (Nat.le_of_ble_eq_true rfl) (by kernel_rfl) ?_
            intro W11 q1
            refine ⟨⟨K1.out.far q1 (by omega), K2.out.far q1 (by omega), K3.out.far q1 (by omega), HB.out.trans (q1.2.1 _ (by omega))⟩, ?_⟩
            simp only [Act.put, List.setIfInBounds_toArray, List.set_cons_zero, List.set_cons_succ]
            have HXLn := Lib.hid (HXL.out.farT K8.out ne_c ne_d q1)
            clear HXL
            have HXL := HXLn
            clear HXLn
            have HXHn := Lib.hid (HXH.out.farT K8.out ne_c ne_d q1)
            clear HXH
            have HXH := HXHn
            clear HXHn
            have K8n : Hid (Blk 34 W11 M0_4 (heC ⟨h.s, h.nu, h.lv, h.ho, A2, h.m, c2, h.st, h.nm, h.th, h.tn⟩)) := Lib.hid q1.1
            clear K8
            have K8 := K8n
            clear K8n
            have K7n := Lib.hid (K7.out.far q1 (by omega))
            clear K7
            have K7 := K7n
            clear K7n
            have K1n := Lib.hid (K1.out.far q1 (by omega))
            clear K1
            have K1 := K1n
            clear K1n
            have K2n := Lib.hid (K2.out.far q1 (by omega))
            clear K2
            have K2 := K2n
            clear K2n
            have K3n := Lib.hid (K3.out.far q1 (by omega))
            clear K3
            have K3 := K3n
            clear K3n
            have HBn := Lib.hid (HB.out.trans (q1.2.1 _ (by omega)))
            clear HB
            have HB := HBn
            clear HBn
            clear q1 hS
            have hS := (And.intro K1.out (And.intro K2.out (And.intro K3.out HB.out)))
            clear hS
            refine wpAnyH_done (by kernel_rfl) ?_ _
            go_wp2_with fail
            go_meet
            case rel => exact ⟨M0, M0_4, A1, c1, L1, A2, c2, L2, rfl, rfl, K7, K8, Lib.hid (own_rd HXL.out), Lib.hid (own_rd HXH.out), HSL, HSH, K1, K2, K3, HB⟩
    · skip
      intro W6 k1 b1 s1
      refine ⟨⟨hS.1.below b1 hS.1.lt, hS.2.1.below b1 hS.2.1.lt, hS.2.2.1.below b1 hS.2.2.1.lt, hS.2.2.2.trans (b1.mono hS.2.2.2.size)⟩, ?_⟩
      simp only [Act.put, List.setIfInBounds_toArray, List.set_cons_zero, List.set_cons_succ]
      have K8 := Lib.hid k1
      clear k1
      have lt_N1_M0 : N1 < M0 := by rw [← HM0.out]; exact K1.out.lt
      have lt_N2_M0 : N2 < M0 := by rw [← HM0.out]; exact K2.out.lt
      have lt_N3_M0 : N3 < M0 := by rw [← HM0.out]; exact K3.out.lt
      have le_HB_M0 : w.heap.size ≤ M0 := by rw [← HM0.out]; exact HB.out.size
      have K1n := Lib.hid (K1.out.below b1 K1.out.lt)
      clear K1
      have K1 := K1n
      clear K1n
      have K2n := Lib.hid (K2.out.below b1 K2.out.lt)
      clear K2
      have K2 := K2n
      clear K2n
      have K3n := Lib.hid (K3.out.below b1 K3.out.lt)
      clear K3
      have K3 := K3n
      clear K3n
      have HBn := Lib.hid (HB.out.trans (b1.mono HB.out.size))
      clear HB
      have HB := HBn
      clear HBn
      clear b1 HM0 hS
      have hS := (And.intro K1.out (And.intro K2.out (And.intro K3.out HB.out)))
      obtain ⟨M0_5, hM0_5⟩ : ∃ N, W6.heap.size = N := ⟨_, rfl⟩
      have HM0_5 := Lib.hid hM0_5
      clear hM0_5
      refine wpAnyH_ready (show Region.ready _ _ _ = [1, 4] from by kernel_rfl) (by simp) (consCE (i := 1) (some 18) 11 #[.agg (loC l)] (R := fun v w' => LocO W6 l L v w') rfl rfl (by rfl) (by go_simp) (local_o l L W6 (HRL.out.below HB.out) HML.out) (fun v w' h => by obtain ⟨A1, c1, L1, rfl, hr1, hs1, hb1⟩ := h; exact ⟨hS.1.below hb1 hS.1.lt, hS.2.1.below hb1 hS.2.1.lt, hS.2.2.1.below hb1 hS.2.2.1.lt, hS.2.2.2.trans (hb1.mono hS.2.2.2.size)⟩) ?_ (consMk (i := 4) (some 9) 32 (loC lo0) rfl rfl (by rfl) rfl zero_loP M0_5 HM0_5.out ?_ AllReadyH.nil))
      · skip
        clear HM0_5
        intro v W7 h hS2
        obtain ⟨A1, c1, L1, rfl, hr1, hs1, hb1⟩ := h
        simp only [Act.put, List.setIfInBounds_toArray, List.set_cons_zero, List.set_cons_succ]
        have K8n := Lib.hid (K8.out.below hb1 K8.out.lt)
        clear K8
        have K8 := K8n
        clear K8n
        clear K1
        clear K2
        clear K3
        clear HB
        clear hS
        have hS := hS2
        clear hS2
        have K1 := Lib.hid hS.1
        have K2 := Lib.hid hS.2.1
        have K3 := Lib.hid hS.2.2.1
        have HB := Lib.hid hS.2.2.2
        have HXL := Lib.hid hr1
        have HSL := Lib.hid hs1
        clear hr1 hs1 hb1
        obtain ⟨M1_5, hM1_5⟩ : ∃ N, W7.heap.size = N := ⟨_, rfl⟩
        have HM1_5 := Lib.hid hM1_5
        clear hM1_5
        refine wpAnyH_ready (show Region.ready _ _ _ = [3, 4] from by kernel_rfl) (by simp) (consCE (i := 3) (some 20) 12 #[.agg (heC h)] (R := fun v w' => HelO W7 h H v w') rfl rfl (by rfl) (by go_simp) (hello_o h H W7 (HRH.out.below HB.out) HMH.out) (fun v w' h => by obtain ⟨A2, c2, L2, rfl, hr1, hs1, hb1⟩ := h; exact ⟨hS.1.below hb1 hS.1.lt, hS.2.1.below hb1 hS.2.1.lt, hS.2.2.1.below hb1 hS.2.2.1.lt, hS.2.2.2.trans (hb1.mono hS.2.2.2.size)⟩) ?_ (consMk (i := 4) (some 9) 32 (loC lo0) rfl rfl (by rfl) rfl zero_loP M1_5 HM1_5.out ?_ AllReadyH.nil))
        · skip
          clear HM1_5
          intro v W8 h hS2
          obtain ⟨A2, c2, L2, rfl, hr1, hs1, hb1⟩ := h
          simp only [Act.put, List.setIfInBounds_toArray, List.set_cons_zero, List.set_cons_succ]
          have HXLn := Lib.hid (HXL.out.below hb1)
          clear HXL
          have HXL := HXLn
          clear HXLn
          have K8n := Lib.hid (K8.out.below hb1 K8.out.lt)
          clear K8
          have K8 := K8n
          clear K8n
          clear K1
          clear K2
          clear K3
          clear HB
          clear hS
          have hS := hS2
          clear hS2
          have K1 := Lib.hid hS.1
          have K2 := Lib.hid hS.2.1
          have K3 := Lib.hid hS.2.2.1
          have HB := Lib.hid hS.2.2.2
          have HXH := Lib.hid hr1
          have HSH := Lib.hid hs1
          clear hr1 hs1 hb1
          obtain ⟨M2_5, hM2_5⟩ : ∃ N, W8.heap.size = N := ⟨_, rfl⟩
          have HM2_5 := Lib.hid hM2_5
          clear hM2_5
          refine takeMk (i := 4) (some 9) 32 (loC lo0) rfl rfl (by kernel_rfl) (by rfl) rfl zero_loP M2_5 HM2_5.out ?_
          · skip
            intro W9 k1 b1 s1
            refine ⟨⟨hS.1.below b1 hS.1.lt, hS.2.1.below b1 hS.2.1.lt, hS.2.2.1.below b1 hS.2.2.1.lt, hS.2.2.2.trans (b1.mono hS.2.2.2.size)⟩, ?_⟩
            simp only [Act.put, List.setIfInBounds_toArray, List.set_cons_zero, List.set_cons_succ]
            have K7 := Lib.hid k1
            clear k1
            have lt_N1_M2_5 : N1 < M2_5 := by rw [← HM2_5.out]; exact K1.out.lt
            have lt_N2_M2_5 : N2 < M2_5 := by rw [← HM2_5.out]; exact K2.out.lt
            have lt_N3_M2_5 : N3 < M2_5 := by rw [← HM2_5.out]; exact K3.out.lt
            have lt_M0_M2_5 : M0 < M2_5 := by rw [← HM2_5.out]; exact K8.out.lt
            have le_HB_M2_5 : w.heap.size ≤ M2_5 := by rw [← HM2_5.out]; exact HB.out.size
            have HXLn := Lib.hid (HXL.out.below b1)
            clear HXL
            have HXL := HXLn
            clear HXLn
            have HXHn := Lib.hid (HXH.out.below b1)
            clear HXH
            have HXH := HXHn
            clear HXHn
            have K8n := Lib.hid (K8.out.below b1 K8.out.lt)
            clear K8
            have K8 := K8n
            clear K8n
            have K1n := Lib.hid (K1.out.below b1 K1.out.lt)
            clear K1
            have K1 := K1n
            clear K1n
            have K2n := Lib.hid (K2.out.below b1 K2.out.lt)
            clear K2
            have K2 := K2n
            clear K2n
            have K3n := Lib.hid (K3.out.below b1 K3.out.lt)
            clear K3
            have K3 := K3n
            clear K3n
            have HBn := Lib.hid (HB.out.trans (b1.mono HB.out.size))
            clear HB
            have HB := HBn
            clear HBn
            clear b1 HM2_5 hS
            have hS := (And.intro K1.out (And.intro K2.out (And.intro K3.out HB.out)))
            refine takeSt (i := 6) 32 (.tmp 9) (.tmp 18) M2_5 0 (.agg (loC ⟨l.s, l.nu, l.lv, A1, l.m, c1⟩)) (loC ⟨l.s, l.nu, l.lv, A1, l.m, c1⟩) (loC ⟨l.s, l.nu, l.lv, A1, l.m, c1⟩) rfl rfl (by kernel_rfl) (by rfl) rfl rfl rfl rfl info_loP (loC_one _) K7.out (Nat.le_of_ble_eq_true rfl) (by kernel_rfl) ?_
            intro W10 q1
            refine ⟨⟨K1.out.far q1 (by omega), K2.out.far q1 (by omega), K3.out.far q1 (by omega), HB.out.trans (q1.2.1 _ (by omega))⟩, ?_⟩
            simp only [Act.put, List.setIfInBounds_toArray, List.set_cons_zero, List.set_cons_succ]
            have HXLn := Lib.hid (HXL.out.farT K7.out ne_a ne_b q1)
            clear HXL
            have HXL := HXLn
            clear HXLn
            have HXHn := Lib.hid (HXH.out.farT K7.out ne_a ne_b q1)
            clear HXH
            have HXH := HXHn
            clear HXHn
            have K7n : Hid (Blk 32 W10 M2_5 (loC ⟨l.s, l.nu, l.lv, A1, l.m, c1⟩)) := Lib.hid q1.1
            clear K7
            have K7 := K7n
            clear K7n
            have K8n := Lib.hid (K8.out.far q1 (by omega))
            clear K8
            have K8 := K8n
            clear K8n
            have K1n := Lib.hid (K1.out.far q1 (by omega))
            clear K1
            have K1 := K1n
            clear K1n
            have K2n := Lib.hid (K2.out.far q1 (by omega))
            clear K2
            have K2 := K2n
            clear K2n
            have K3n := Lib.hid (K3.out.far q1 (by omega))
            clear K3
            have K3 := K3n
            clear K3n
            have HBn := Lib.hid (HB.out.trans (q1.2.1 _ (by omega)))
            clear HB
            have HB := HBn
            clear HBn
            clear q1 hS
            have hS := (And.intro K1.out (And.intro K2.out (And.intro K3.out HB.out)))
            refine takeSt (i := 7) 34 (.tmp 10) (.tmp 20) M0 0 (.agg (heC ⟨h.s, h.nu, h.lv, h.ho, A2, h.m, c2, h.st, h.nm, h.th, h.tn⟩)) (heC ⟨h.s, h.nu, h.lv, h.ho, A2, h.m, c2, h.st, h.nm, h.th, h.tn⟩) (heC ⟨h.s, h.nu, h.lv, h.ho, A2, h.m, c2, h.st, h.nm, h.th, h.tn⟩) rfl rfl (by kernel_rfl) (by rfl) rfl rfl rfl rfl info_heP (heC_one _) K8.out (Nat.le_of_ble_eq_true rfl) (by kernel_rfl) ?_
            intro W11 q1
            refine ⟨⟨K1.out.far q1 (by omega), K2.out.far q1 (by omega), K3.out.far q1 (by omega), HB.out.trans (q1.2.1 _ (by omega))⟩, ?_⟩
            simp only [Act.put, List.setIfInBounds_toArray, List.set_cons_zero, List.set_cons_succ]
            have HXLn := Lib.hid (HXL.out.farT K8.out ne_c ne_d q1)
            clear HXL
            have HXL := HXLn
            clear HXLn
            have HXHn := Lib.hid (HXH.out.farT K8.out ne_c ne_d q1)
            clear HXH
            have HXH := HXHn
            clear HXHn
            have K8n : Hid (Blk 34 W11 M0 (heC ⟨h.s, h.nu, h.lv, h.ho, A2, h.m, c2, h.st, h.nm, h.th, h.tn⟩)) := Lib.hid q1.1
            clear K8
            have K8 := K8n
            clear K8n
            have K7n := Lib.hid (K7.out.far q1 (by omega))
            clear K7
            have K7 := K7n
            clear K7n
            have K1n := Lib.hid (K1.out.far q1 (by omega))
            clear K1
            have K1 := K1n
            clear K1n
            have K2n := Lib.hid (K2.out.far q1 (by omega))
            clear K2
            have K2 := K2n
            clear K2n
            have K3n := Lib.hid (K3.out.far q1 (by omega))
            clear K3
            have K3 := K3n
            clear K3n
            have HBn := Lib.hid (HB.out.trans (q1.2.1 _ (by omega)))
            clear HB
            have HB := HBn
            clear HBn
            clear q1 hS
            have hS := (And.intro K1.out (And.intro K2.out (And.intro K3.out HB.out)))
            clear hS
            refine wpAnyH_done (by kernel_rfl) ?_ _
            go_wp2_with fail
            go_meet
            case rel => exact ⟨M2_5, M0, A1, c1, L1, A2, c2, L2, rfl, rfl, K7, K8, Lib.hid (own_rd HXL.out), Lib.hid (own_rd HXH.out), HSL, HSH, K1, K2, K3, HB⟩
        · skip
          intro W8 k1 b1 s1
          refine ⟨⟨hS.1.below b1 hS.1.lt, hS.2.1.below b1 hS.2.1.lt, hS.2.2.1.below b1 hS.2.2.1.lt, hS.2.2.2.trans (b1.mono hS.2.2.2.size)⟩, ?_⟩
          simp only [Act.put, List.setIfInBounds_toArray, List.set_cons_zero, List.set_cons_succ]
          have K7 := Lib.hid k1
          clear k1
          have lt_N1_M1_5 : N1 < M1_5 := by rw [← HM1_5.out]; exact K1.out.lt
          have lt_N2_M1_5 : N2 < M1_5 := by rw [← HM1_5.out]; exact K2.out.lt
          have lt_N3_M1_5 : N3 < M1_5 := by rw [← HM1_5.out]; exact K3.out.lt
          have lt_M0_M1_5 : M0 < M1_5 := by rw [← HM1_5.out]; exact K8.out.lt
          have le_HB_M1_5 : w.heap.size ≤ M1_5 := by rw [← HM1_5.out]; exact HB.out.size
          have HXLn := Lib.hid (HXL.out.below b1)
          clear HXL
          have HXL := HXLn
          clear HXLn
          have K8n := Lib.hid (K8.out.below b1 K8.out.lt)
          clear K8
          have K8 := K8n
          clear K8n
          have K1n := Lib.hid (K1.out.below b1 K1.out.lt)
          clear K1
          have K1 := K1n
          clear K1n
          have K2n := Lib.hid (K2.out.below b1 K2.out.lt)
          clear K2
          have K2 := K2n
          clear K2n
          have K3n := Lib.hid (K3.out.below b1 K3.out.lt)
          clear K3
          have K3 := K3n
          clear K3n
          have HBn := Lib.hid (HB.out.trans (b1.mono HB.out.size))
          clear HB
          have HB := HBn
          clear HBn
          clear b1 HM1_5 hS
          have hS := (And.intro K1.out (And.intro K2.out (And.intro K3.out HB.out)))
          refine takeCE (i := 3) (some 20) 12 #[.agg (heC h)] (R := fun v w' => HelO W8 h H v w') rfl rfl (by kernel_rfl) (by rfl) (by go_simp) (hello_o h H W8 (HRH.out.below HB.out) HMH.out) (fun v w' h => by obtain ⟨A2, c2, L2, rfl, hr1, hs1, hb1⟩ := h; exact ⟨hS.1.below hb1 hS.1.lt, hS.2.1.below hb1 hS.2.1.lt, hS.2.2.1.below hb1 hS.2.2.1.lt, hS.2.2.2.trans (hb1.mono hS.2.2.2.size)⟩) ?_
          · skip
            intro v W9 h hS2
            obtain ⟨A2, c2, L2, rfl, hr1, hs1, hb1⟩ := h
            simp only [Act.put, List.setIfInBounds_toArray, List.set_cons_zero, List.set_cons_succ]
            have HXLn := Lib.hid (HXL.out.below hb1)
            clear HXL
            have HXL := HXLn
            clear HXLn
            have K8n := Lib.hid (K8.out.below hb1 K8.out.lt)
            clear K8
            have K8 := K8n
            clear K8n
            have K7n := Lib.hid (K7.out.below hb1 K7.out.lt)
            clear K7
            have K7 := K7n
            clear K7n
            clear K1
            clear K2
            clear K3
            clear HB
            clear hS
            have hS := hS2
            clear hS2
            have K1 := Lib.hid hS.1
            have K2 := Lib.hid hS.2.1
            have K3 := Lib.hid hS.2.2.1
            have HB := Lib.hid hS.2.2.2
            have HXH := Lib.hid hr1
            have HSH := Lib.hid hs1
            clear hr1 hs1 hb1
            refine takeSt (i := 6) 32 (.tmp 9) (.tmp 18) M1_5 0 (.agg (loC ⟨l.s, l.nu, l.lv, A1, l.m, c1⟩)) (loC ⟨l.s, l.nu, l.lv, A1, l.m, c1⟩) (loC ⟨l.s, l.nu, l.lv, A1, l.m, c1⟩) rfl rfl (by kernel_rfl) (by rfl) rfl rfl rfl rfl info_loP (loC_one _) K7.out (Nat.le_of_ble_eq_true rfl) (by kernel_rfl) ?_
            intro W10 q1
            refine ⟨⟨K1.out.far q1 (by omega), K2.out.far q1 (by omega), K3.out.far q1 (by omega), HB.out.trans (q1.2.1 _ (by omega))⟩, ?_⟩
            simp only [Act.put, List.setIfInBounds_toArray, List.set_cons_zero, List.set_cons_succ]
            have HXLn := Lib.hid (HXL.out.farT K7.out ne_a ne_b q1)
            clear HXL
            have HXL := HXLn
            clear HXLn
            have HXHn := Lib.hid (HXH.out.farT K7.out ne_a ne_b q1)
            clear HXH
            have HXH := HXHn
            clear HXHn
            have K7n : Hid (Blk 32 W10 M1_5 (loC ⟨l.s, l.nu, l.lv, A1, l.m, c1⟩)) := Lib.hid q1.1
            clear K7
            have K7 := K7n
            clear K7n
            have K8n := Lib.hid (K8.out.far q1 (by omega))
            clear K8
            have K8 := K8n
            clear K8n
            have K1n := Lib.hid (K1.out.far q1 (by omega))
            clear K1
            have K1 := K1n
            clear K1n
            have K2n := Lib.hid (K2.out.far q1 (by omega))
            clear K2
            have K2 := K2n
            clear K2n
            have K3n := Lib.hid (K3.out.far q1 (by omega))
            clear K3
            have K3 := K3n
            clear K3n
            have HBn := Lib.hid (HB.out.trans (q1.2.1 _ (by omega)))
            clear HB
            have HB := HBn
            clear HBn
            clear q1 hS
            have hS := (And.intro K1.out (And.intro K2.out (And.intro K3.out HB.out)))
            refine takeSt (i := 7) 34 (.tmp 10) (.tmp 20) M0 0 (.agg (heC ⟨h.s, h.nu, h.lv, h.ho, A2, h.m, c2, h.st, h.nm, h.th, h.tn⟩)) (heC ⟨h.s, h.nu, h.lv, h.ho, A2, h.m, c2, h.st, h.nm, h.th, h.tn⟩) (heC ⟨h.s, h.nu, h.lv, h.ho, A2, h.m, c2, h.st, h.nm, h.th, h.tn⟩) rfl rfl (by kernel_rfl) (by rfl) rfl rfl rfl rfl info_heP (heC_one _) K8.out (Nat.le_of_ble_eq_true rfl) (by kernel_rfl) ?_
            intro W11 q1
            refine ⟨⟨K1.out.far q1 (by omega), K2.out.far q1 (by omega), K3.out.far q1 (by omega), HB.out.trans (q1.2.1 _ (by omega))⟩, ?_⟩
            simp only [Act.put, List.setIfInBounds_toArray, List.set_cons_zero, List.set_cons_succ]
            have HXLn := Lib.hid (HXL.out.farT K8.out ne_c ne_d q1)
            clear HXL
            have HXL := HXLn
            clear HXLn
            have HXHn := Lib.hid (HXH.out.farT K8.out ne_c ne_d q1)
            clear HXH
            have HXH := HXHn
            clear HXHn
            have K8n : Hid (Blk 34 W11 M0 (heC ⟨h.s, h.nu, h.lv, h.ho, A2, h.m, c2, h.st, h.nm, h.th, h.tn⟩)) := Lib.hid q1.1
            clear K8
            have K8 := K8n
            clear K8n
            have K7n := Lib.hid (K7.out.far q1 (by omega))
            clear K7
            have K7 := K7n
            clear K7n
            have K1n := Lib.hid (K1.out.far q1 (by omega))
            clear K1
            have K1 := K1n
            clear K1n
            have K2n := Lib.hid (K2.out.far q1 (by omega))
            clear K2
            have K2 := K2n
            clear K2n
            have K3n := Lib.hid (K3.out.far q1 (by omega))
            clear K3
            have K3 := K3n
            clear K3n
            have HBn := Lib.hid (HB.out.trans (q1.2.1 _ (by omega)))
            clear HB
            have HB := HBn
            clear HBn
            clear q1 hS
            have hS := (And.intro K1.out (And.intro K2.out (And.intro K3.out HB.out)))
            clear hS
            refine wpAnyH_done (by kernel_rfl) ?_ _
            go_wp2_with fail
            go_meet
            case rel => exact ⟨M1_5, M0, A1, c1, L1, A2, c2, L2, rfl, rfl, K7, K8, Lib.hid (own_rd HXL.out), Lib.hid (own_rd HXH.out), HSL, HSH, K1, K2, K3, HB⟩
      · skip
        intro W7 k1 b1 s1
        refine ⟨⟨hS.1.below b1 hS.1.lt, hS.2.1.below b1 hS.2.1.lt, hS.2.2.1.below b1 hS.2.2.1.lt, hS.2.2.2.trans (b1.mono hS.2.2.2.size)⟩, ?_⟩
        simp only [Act.put, List.setIfInBounds_toArray, List.set_cons_zero, List.set_cons_succ]
        have K7 := Lib.hid k1
        clear k1
        have lt_N1_M0_5 : N1 < M0_5 := by rw [← HM0_5.out]; exact K1.out.lt
        have lt_N2_M0_5 : N2 < M0_5 := by rw [← HM0_5.out]; exact K2.out.lt
        have lt_N3_M0_5 : N3 < M0_5 := by rw [← HM0_5.out]; exact K3.out.lt
        have lt_M0_M0_5 : M0 < M0_5 := by rw [← HM0_5.out]; exact K8.out.lt
        have le_HB_M0_5 : w.heap.size ≤ M0_5 := by rw [← HM0_5.out]; exact HB.out.size
        have K8n := Lib.hid (K8.out.below b1 K8.out.lt)
        clear K8
        have K8 := K8n
        clear K8n
        have K1n := Lib.hid (K1.out.below b1 K1.out.lt)
        clear K1
        have K1 := K1n
        clear K1n
        have K2n := Lib.hid (K2.out.below b1 K2.out.lt)
        clear K2
        have K2 := K2n
        clear K2n
        have K3n := Lib.hid (K3.out.below b1 K3.out.lt)
        clear K3
        have K3 := K3n
        clear K3n
        have HBn := Lib.hid (HB.out.trans (b1.mono HB.out.size))
        clear HB
        have HB := HBn
        clear HBn
        clear b1 HM0_5 hS
        have hS := (And.intro K1.out (And.intro K2.out (And.intro K3.out HB.out)))
        refine takeCE (i := 1) (some 18) 11 #[.agg (loC l)] (R := fun v w' => LocO W7 l L v w') rfl rfl (by kernel_rfl) (by rfl) (by go_simp) (local_o l L W7 (HRL.out.below HB.out) HML.out) (fun v w' h => by obtain ⟨A1, c1, L1, rfl, hr1, hs1, hb1⟩ := h; exact ⟨hS.1.below hb1 hS.1.lt, hS.2.1.below hb1 hS.2.1.lt, hS.2.2.1.below hb1 hS.2.2.1.lt, hS.2.2.2.trans (hb1.mono hS.2.2.2.size)⟩) ?_
        · skip
          intro v W8 h hS2
          obtain ⟨A1, c1, L1, rfl, hr1, hs1, hb1⟩ := h
          simp only [Act.put, List.setIfInBounds_toArray, List.set_cons_zero, List.set_cons_succ]
          have K8n := Lib.hid (K8.out.below hb1 K8.out.lt)
          clear K8
          have K8 := K8n
          clear K8n
          have K7n := Lib.hid (K7.out.below hb1 K7.out.lt)
          clear K7
          have K7 := K7n
          clear K7n
          clear K1
          clear K2
          clear K3
          clear HB
          clear hS
          have hS := hS2
          clear hS2
          have K1 := Lib.hid hS.1
          have K2 := Lib.hid hS.2.1
          have K3 := Lib.hid hS.2.2.1
          have HB := Lib.hid hS.2.2.2
          have HXL := Lib.hid hr1
          have HSL := Lib.hid hs1
          clear hr1 hs1 hb1
          refine takeCE (i := 3) (some 20) 12 #[.agg (heC h)] (R := fun v w' => HelO W8 h H v w') rfl rfl (by kernel_rfl) (by rfl) (by go_simp) (hello_o h H W8 (HRH.out.below HB.out) HMH.out) (fun v w' h => by obtain ⟨A2, c2, L2, rfl, hr1, hs1, hb1⟩ := h; exact ⟨hS.1.below hb1 hS.1.lt, hS.2.1.below hb1 hS.2.1.lt, hS.2.2.1.below hb1 hS.2.2.1.lt, hS.2.2.2.trans (hb1.mono hS.2.2.2.size)⟩) ?_
          · skip
            intro v W9 h hS2
            obtain ⟨A2, c2, L2, rfl, hr1, hs1, hb1⟩ := h
            simp only [Act.put, List.setIfInBounds_toArray, List.set_cons_zero, List.set_cons_succ]
            have HXLn := Lib.hid (HXL.out.below hb1)
            clear HXL
            have HXL := HXLn
            clear HXLn
            have K8n := Lib.hid (K8.out.below hb1 K8.out.lt)
            clear K8
            have K8 := K8n
            clear K8n
            have K7n := Lib.hid (K7.out.below hb1 K7.out.lt)
            clear K7
            have K7 := K7n
            clear K7n
            clear K1
            clear K2
            clear K3
            clear HB
            clear hS
            have hS := hS2
            clear hS2
            have K1 := Lib.hid hS.1
            have K2 := Lib.hid hS.2.1
            have K3 := Lib.hid hS.2.2.1
            have HB := Lib.hid hS.2.2.2
            have HXH := Lib.hid hr1
            have HSH := Lib.hid hs1
            clear hr1 hs1 hb1
            refine takeSt (i := 6) 32 (.tmp 9) (.tmp 18) M0_5 0 (.agg (loC ⟨l.s, l.nu, l.lv, A1, l.m, c1⟩)) (loC ⟨l.s, l.nu, l.lv, A1, l.m, c1⟩) (loC ⟨l.s, l.nu, l.lv, A1, l.m, c1⟩) rfl rfl (by kernel_rfl) (by rfl) rfl rfl rfl rfl info_loP (loC_one _) K7.out (Nat.le_of_ble_eq_true rfl) (by kernel_rfl) ?_
            intro W10 q1
            refine ⟨⟨K1.out.far q1 (by omega), K2.out.far q1 (by omega), K3.out.far q1 (by omega), HB.out.trans (q1.2.1 _ (by omega))⟩, ?_⟩
            simp only [Act.put, List.setIfInBounds_toArray, List.set_cons_zero, List.set_cons_succ]
            have HXLn := Lib.hid (HXL.out.farT K7.out ne_a ne_b q1)
            clear HXL
            have HXL := HXLn
            clear HXLn
            have HXHn := Lib.hid (HXH.out.farT K7.out ne_a ne_b q1)
            clear HXH
            have HXH := HXHn
            clear HXHn
            have K7n : Hid (Blk 32 W10 M0_5 (loC ⟨l.s, l.nu, l.lv, A1, l.m, c1⟩)) := Lib.hid q1.1
            clear K7
            have K7 := K7n
            clear K7n
            have K8n := Lib.hid (K8.out.far q1 (by omega))
            clear K8
            have K8 := K8n
            clear K8n
            have K1n := Lib.hid (K1.out.far q1 (by omega))
            clear K1
            have K1 := K1n
            clear K1n
            have K2n := Lib.hid (K2.out.far q1 (by omega))
            clear K2
            have K2 := K2n
            clear K2n
            have K3n := Lib.hid (K3.out.far q1 (by omega))
            clear K3
            have K3 := K3n
            clear K3n
            have HBn := Lib.hid (HB.out.trans (q1.2.1 _ (by omega)))
            clear HB
            have HB := HBn
            clear HBn
            clear q1 hS
            have hS := (And.intro K1.out (And.intro K2.out (And.intro K3.out HB.out)))
            refine takeSt (i := 7) 34 (.tmp 10) (.tmp 20) M0 0 (.agg (heC ⟨h.s, h.nu, h.lv, h.ho, A2, h.m, c2, h.st, h.nm, h.th, h.tn⟩)) (heC ⟨h.s, h.nu, h.lv, h.ho, A2, h.m, c2, h.st, h.nm, h.th, h.tn⟩) (heC ⟨h.s, h.nu, h.lv, h.ho, A2, h.m, c2, h.st, h.nm, h.th, h.tn⟩) rfl rfl (by kernel_rfl) (by rfl) rfl rfl rfl rfl info_heP (heC_one _) K8.out (Nat.le_of_ble_eq_true rfl) (by kernel_rfl) ?_
            intro W11 q1
            refine ⟨⟨K1.out.far q1 (by omega), K2.out.far q1 (by omega), K3.out.far q1 (by omega), HB.out.trans (q1.2.1 _ (by omega))⟩, ?_⟩
            simp only [Act.put, List.setIfInBounds_toArray, List.set_cons_zero, List.set_cons_succ]
            have HXLn := Lib.hid (HXL.out.farT K8.out ne_c ne_d q1)
            clear HXL
            have HXL := HXLn
            clear HXLn
            have HXHn := Lib.hid (HXH.out.farT K8.out ne_c ne_d q1)
            clear HXH
            have HXH := HXHn
            clear HXHn
            have K8n : Hid (Blk 34 W11 M0 (heC ⟨h.s, h.nu, h.lv, h.ho, A2, h.m, c2, h.st, h.nm, h.th, h.tn⟩)) := Lib.hid q1.1
            clear K8
            have K8 := K8n
            clear K8n
            have K7n := Lib.hid (K7.out.far q1 (by omega))
            clear K7
            have K7 := K7n
            clear K7n
            have K1n := Lib.hid (K1.out.far q1 (by omega))
            clear K1
            have K1 := K1n
            clear K1n
            have K2n := Lib.hid (K2.out.far q1 (by omega))
            clear K2
            have K2 := K2n
            clear K2n
            have K3n := Lib.hid (K3.out.far q1 (by omega))
            clear K3
            have K3 := K3n
            clear K3n
            have HBn := Lib.hid (HB.out.trans (q1.2.1 _ (by omega)))
            clear HB
            have HB := HBn
            clear HBn
            clear q1 hS
            have hS := (And.intro K1.out (And.intro K2.out (And.intro K3.out HB.out)))
            clear hS
            refine wpAnyH_done (by kernel_rfl) ?_ _
            go_wp2_with fail
            go_meet
            case rel => exact ⟨M0_5, M0, A1, c1, L1, A2, c2, L2, rfl, rfl, K7, K8, Lib.hid (own_rd HXL.out), Lib.hid (own_rd HXH.out), HSL, HSH, K1, K2, K3, HB⟩
  case rest =>
  clear K1
  clear K2
  clear K3
  clear HB
  obtain ⟨NX, NY, A1, c1, L1, A2, c2, L2, rfl, rfl, K7, K8, HXL, HXH, HSL, HSH, K1, K2, K3, HB⟩ := hcut
  obtain ⟨wd, rfl⟩ : ∃ wd, wd = wc := ⟨_, rfl⟩
  go_wp2_with (refine wpList_ld (op := ⟨some 22, _, _, _, _, _⟩) (by rfl) 32 (.tmp 9) rfl NX 0 rfl (loC ⟨l.s, l.nu, l.lv, A1, l.m, c1⟩) _ K7.out.all Try.underlying32 rfl info_loP ?_; refine Hid.out ?_)
  refine Lib.hid ?_
  go_wp2_with (refine wpList_ld (op := ⟨some 23, _, _, _, _, _⟩) (by rfl) 28 (.tmp 5) rfl N2 0 rfl (ajC a) _ K2.out.all Try.underlying28 rfl info_ajR ?_; refine Hid.out ?_)
  refine Lib.hid ?_
  go_wp2_with (refine wpList_ld (op := ⟨some 24, _, _, _, _, _⟩) (by rfl) 34 (.tmp 10) rfl NY 0 rfl (heC ⟨h.s, h.nu, h.lv, h.ho, A2, h.m, c2, h.st, h.nm, h.th, h.tn⟩) _ K8.out.all Try.underlying34 rfl info_heP ?_; refine Hid.out ?_)
  refine Lib.hid ?_
  go_wp2_with fail
  refine (step_law l a h now L H L1 L2 A1 A2 c1 c2 _ HYL.out HYA.out HYH.out HYT.out HXL.out HXH.out (by have := HML.out; omega) (by have := HMH.out; omega) HSL.out HSH.out R HR.out).mono ?_
  rintro e w5 ⟨rfl, b1⟩
  have K1n := Lib.hid (K1.out.below b1 K1.out.lt)
  clear K1
  have K1 := K1n
  clear K1n
  have K2n := Lib.hid (K2.out.below b1 K2.out.lt)
  clear K2
  have K2 := K2n
  clear K2n
  have K3n := Lib.hid (K3.out.below b1 K3.out.lt)
  clear K3
  have K3 := K3n
  clear K3n
  have K7n := Lib.hid (K7.out.below b1 K7.out.lt)
  clear K7
  have K7 := K7n
  clear K7n
  have K8n := Lib.hid (K8.out.below b1 K8.out.lt)
  clear K8
  have K8 := K8n
  clear K8n
  have HXLn := Lib.hid (HXL.out.below b1)
  clear HXL
  have HXL := HXLn
  clear HXLn
  have HXHn := Lib.hid (HXH.out.below b1)
  clear HXH
  have HXH := HXHn
  clear HXHn
  have HBn := Lib.hid (HB.out.trans (b1.mono HB.out.size))
  clear HB
  have HB := HBn
  clear HBn
  clear b1
  have HBx := Lib.hid (Below.refl w5.heap.size w5)
  obtain ⟨N6, hN6⟩ : ∃ N, w5.heap.size = N := ⟨_, rfl⟩
  have HN6 := Lib.hid hN6
  clear hN6
  go_wp2_with (refine wpList_new (op := ⟨some 11, _, _, _, _, _⟩) rfl 36 rfl (ajC aj0) zero_ajP N6 HN6.out ?_; intro w6 k1 b1 s1; refine Hid.out ?_)
  refine Lib.hid ?_
  have K9 := Lib.hid k1
  clear k1
  have lt_N1_N6 : N1 < N6 := by rw [← HN6.out]; exact K1.out.lt
  have lt_N2_N6 : N2 < N6 := by rw [← HN6.out]; exact K2.out.lt
  have lt_N3_N6 : N3 < N6 := by rw [← HN6.out]; exact K3.out.lt
  have lt_NX_N6 : NX < N6 := by rw [← HN6.out]; exact K7.out.lt
  have lt_NY_N6 : NY < N6 := by rw [← HN6.out]; exact K8.out.lt
  have le_HB_N6 : w.heap.size ≤ N6 := by rw [← HN6.out]; exact HB.out.size
  have le_HBx_N6 : w5.heap.size ≤ N6 := by rw [← HN6.out]; exact HBx.out.size
  have K1n := Lib.hid (K1.out.below b1 K1.out.lt)
  clear K1
  have K1 := K1n
  clear K1n
  have K2n := Lib.hid (K2.out.below b1 K2.out.lt)
  clear K2
  have K2 := K2n
  clear K2n
  have K3n := Lib.hid (K3.out.below b1 K3.out.lt)
  clear K3
  have K3 := K3n
  clear K3n
  have K7n := Lib.hid (K7.out.below b1 K7.out.lt)
  clear K7
  have K7 := K7n
  clear K7n
  have K8n := Lib.hid (K8.out.below b1 K8.out.lt)
  clear K8
  have K8 := K8n
  clear K8n
  have HBn := Lib.hid (HB.out.trans (b1.mono HB.out.size))
  clear HB
  have HB := HBn
  clear HBn
  have HBxn := Lib.hid (HBx.out.trans (b1.mono HBx.out.size))
  clear HBx
  have HBx := HBxn
  clear HBxn
  clear b1 HN6
  go_wp2_with (refine wpList_st rfl 36 (.tmp 11) (.tmp 27) rfl N6 0 rfl (.agg (ajC R.1)) (ajC R.1) rfl rfl info_ajP (ajC_one _) K9.out (Nat.le_of_ble_eq_true rfl) (C' := ajC R.1) (by kernel_rfl) ?_; intro w7 q1; refine Hid.out ?_)
  refine Lib.hid ?_
  have K1n := Lib.hid (K1.out.far q1 (by omega))
  clear K1
  have K1 := K1n
  clear K1n
  have K2n := Lib.hid (K2.out.far q1 (by omega))
  clear K2
  have K2 := K2n
  clear K2n
  have K3n := Lib.hid (K3.out.far q1 (by omega))
  clear K3
  have K3 := K3n
  clear K3n
  have K7n := Lib.hid (K7.out.far q1 (by omega))
  clear K7
  have K7 := K7n
  clear K7n
  have K8n := Lib.hid (K8.out.far q1 (by omega))
  clear K8
  have K8 := K8n
  clear K8n
  have HBn := Lib.hid (HB.out.trans (q1.2.1 _ (by omega)))
  clear HB
  have HB := HBn
  clear HBn
  have HBxn := Lib.hid (HBx.out.trans (q1.2.1 _ (by omega)))
  clear HBx
  have HBx := HBxn
  clear HBxn
  have K9n : Hid (Blk 36 w7 N6 (ajC R.1)) := Lib.hid q1.1
  clear K9
  have K9 := K9n
  clear K9n q1
  go_wp2_with (refine wpList_ld (op := ⟨some 30, _, _, _, _, _⟩) (by rfl) 26 (.tmp 4) rfl N1 0 rfl (loC l) _ K1.out.all Try.underlying26 rfl info_loR ?_; refine Hid.out ?_)
  refine Lib.hid ?_
  go_wp2_with (refine wpList_ld (op := ⟨some 31, _, _, _, _, _⟩) (by rfl) 28 (.tmp 5) rfl N2 0 rfl (ajC a) _ K2.out.all Try.underlying28 rfl info_ajR ?_; refine Hid.out ?_)
  refine Lib.hid ?_
  go_wp2_with (refine wpList_ld (op := ⟨some 32, _, _, _, _, _⟩) (by rfl) 30 (.tmp 6) rfl N3 0 rfl (heC h) _ K3.out.all Try.underlying30 rfl info_heR ?_; refine Hid.out ?_)
  refine Lib.hid ?_
  go_wp2_with fail
  refine (docStep_any l a h now L H w7 HYL.out HYA.out HYH.out HYT.out (HRL.out.below HB.out) (HRH.out.below HB.out) (by have := HML.out; omega) (by have := HMH.out; omega) R HR.out).mono ?_
  rintro e w8 ⟨rfl, b1⟩
  have K1n := Lib.hid (K1.out.below b1 K1.out.lt)
  clear K1
  have K1 := K1n
  clear K1n
  have K2n := Lib.hid (K2.out.below b1 K2.out.lt)
  clear K2
  have K2 := K2n
  clear K2n
  have K3n := Lib.hid (K3.out.below b1 K3.out.lt)
  clear K3
  have K3 := K3n
  clear K3n
  have K7n := Lib.hid (K7.out.below b1 K7.out.lt)
  clear K7
  have K7 := K7n
  clear K7n
  have K8n := Lib.hid (K8.out.below b1 K8.out.lt)
  clear K8
  have K8 := K8n
  clear K8n
  have K9n := Lib.hid (K9.out.below b1 K9.out.lt)
  clear K9
  have K9 := K9n
  clear K9n
  have HBn := Lib.hid (HB.out.trans (b1.mono HB.out.size))
  clear HB
  have HB := HBn
  clear HBn
  have HBxn := Lib.hid (HBx.out.trans (b1.mono HBx.out.size))
  clear HBx
  have HBx := HBxn
  clear HBxn
  clear b1
  obtain ⟨N9, hN9⟩ : ∃ N, w8.heap.size = N := ⟨_, rfl⟩
  have HN9 := Lib.hid hN9
  clear hN9
  go_wp2_with (refine wpList_new (op := ⟨some 13, _, _, _, _, _⟩) rfl 28 rfl (ajC aj0) zero_ajR N9 HN9.out ?_; intro w9 k1 b1 s1; refine Hid.out ?_)
  refine Lib.hid ?_
  have K10 := Lib.hid k1
  clear k1
  have lt_N1_N9 : N1 < N9 := by rw [← HN9.out]; exact K1.out.lt
  have lt_N2_N9 : N2 < N9 := by rw [← HN9.out]; exact K2.out.lt
  have lt_N3_N9 : N3 < N9 := by rw [← HN9.out]; exact K3.out.lt
  have lt_NX_N9 : NX < N9 := by rw [← HN9.out]; exact K7.out.lt
  have lt_NY_N9 : NY < N9 := by rw [← HN9.out]; exact K8.out.lt
  have lt_N6_N9 : N6 < N9 := by rw [← HN9.out]; exact K9.out.lt
  have le_HB_N9 : w.heap.size ≤ N9 := by rw [← HN9.out]; exact HB.out.size
  have le_HBx_N9 : w5.heap.size ≤ N9 := by rw [← HN9.out]; exact HBx.out.size
  have K1n := Lib.hid (K1.out.below b1 K1.out.lt)
  clear K1
  have K1 := K1n
  clear K1n
  have K2n := Lib.hid (K2.out.below b1 K2.out.lt)
  clear K2
  have K2 := K2n
  clear K2n
  have K3n := Lib.hid (K3.out.below b1 K3.out.lt)
  clear K3
  have K3 := K3n
  clear K3n
  have K7n := Lib.hid (K7.out.below b1 K7.out.lt)
  clear K7
  have K7 := K7n
  clear K7n
  have K8n := Lib.hid (K8.out.below b1 K8.out.lt)
  clear K8
  have K8 := K8n
  clear K8n
  have K9n := Lib.hid (K9.out.below b1 K9.out.lt)
  clear K9
  have K9 := K9n
  clear K9n
  have HBn := Lib.hid (HB.out.trans (b1.mono HB.out.size))
  clear HB
  have HB := HBn
  clear HBn
  have HBxn := Lib.hid (HBx.out.trans (b1.mono HBx.out.size))
  clear HBx
  have HBx := HBxn
  clear HBxn
  clear b1 HN9
  go_wp2_with (refine wpList_st rfl 28 (.tmp 13) (.tmp 35) rfl N9 0 rfl (.agg (ajC R.1)) (ajC R.1) rfl rfl info_ajR (ajC_one _) K10.out (Nat.le_of_ble_eq_true rfl) (C' := ajC R.1) (by kernel_rfl) ?_; intro w10 q1; refine Hid.out ?_)
  refine Lib.hid ?_
  have K1n := Lib.hid (K1.out.far q1 (by omega))
  clear K1
  have K1 := K1n
  clear K1n
  have K2n := Lib.hid (K2.out.far q1 (by omega))
  clear K2
  have K2 := K2n
  clear K2n
  have K3n := Lib.hid (K3.out.far q1 (by omega))
  clear K3
  have K3 := K3n
  clear K3n
  have K7n := Lib.hid (K7.out.far q1 (by omega))
  clear K7
  have K7 := K7n
  clear K7n
  have K8n := Lib.hid (K8.out.far q1 (by omega))
  clear K8
  have K8 := K8n
  clear K8n
  have K9n := Lib.hid (K9.out.far q1 (by omega))
  clear K9
  have K9 := K9n
  clear K9n
  have HBn := Lib.hid (HB.out.trans (q1.2.1 _ (by omega)))
  clear HB
  have HB := HBn
  clear HBn
  have HBxn := Lib.hid (HBx.out.trans (q1.2.1 _ (by omega)))
  clear HBx
  have HBx := HBxn
  clear HBxn
  have K10n : Hid (Blk 28 w10 N9 (ajC R.1)) := Lib.hid q1.1
  clear K10
  have K10 := K10n
  clear K10n q1
  go_wp2_with (refine wpList_ld (op := ⟨some 37, _, _, _, _, _⟩) (by rfl) 36 (.tmp 11) rfl N6 0 rfl (ajC R.1) _ K9.out.all Try.underlying36 rfl info_ajP ?_; refine Hid.out ?_)
  refine Lib.hid ?_
  go_wp2_with (refine wpList_ld (op := ⟨some 38, _, _, _, _, _⟩) (by rfl) 28 (.tmp 13) rfl N9 0 rfl (ajC R.1) _ K10.out.all Try.underlying28 rfl info_ajR ?_; refine Hid.out ?_)
  refine Lib.hid ?_
  go_wp2_with (refine wpList_gv (op := ⟨some 39, _, _, _, _, _⟩) _ (by rfl) (eql_self _ _ _ _ _ _ rfl rfl guard_ajR _ HSR.out rfl rfl _) ?_; refine Hid.out ?_)
  refine Lib.hid ?_
  have ca : w10.cell? ⟨NX, 8, none⟩ = some (.slice A1 l.m c1) := (K7.out.cell 8).trans rfl
  have cb : w10.cell? ⟨N1, 8, none⟩ = some (.slice l.A l.m l.c) := (K1.out.cell 8).trans rfl
  have cc : w10.cell? ⟨NY, 9, none⟩ = some (.slice A2 h.m c2) := (K8.out.cell 9).trans rfl
  have cd : w10.cell? ⟨N3, 9, none⟩ = some (.slice h.A h.m h.c) := (K3.out.cell 9).trans rfl
  obtain ⟨E, hE⟩ : ∃ E, R.2 = E := ⟨_, rfl⟩
  rw [hE]
  clear hE
  go_wp2_with fail
  refine ((sameAreas_b A1 l.A l.m c1 l.c L1 L w10 (HXL.out.below HBx.out) (HRL.out.below HB.out) (fun j hj => (HSL.out j hj).symm) (by have := HML.out; omega))).mono ?_
  rintro e w11 ⟨rfl, b1⟩
  have K1n := Lib.hid (K1.out.below b1 K1.out.lt)
  clear K1
  have K1 := K1n
  clear K1n
  have K2n := Lib.hid (K2.out.below b1 K2.out.lt)
  clear K2
  have K2 := K2n
  clear K2n
  have K3n := Lib.hid (K3.out.below b1 K3.out.lt)
  clear K3
  have K3 := K3n
  clear K3n
  have K7n := Lib.hid (K7.out.below b1 K7.out.lt)
  clear K7
  have K7 := K7n
  clear K7n
  have K8n := Lib.hid (K8.out.below b1 K8.out.lt)
  clear K8
  have K8 := K8n
  clear K8n
  have K9n := Lib.hid (K9.out.below b1 K9.out.lt)
  clear K9
  have K9 := K9n
  clear K9n
  have K10n := Lib.hid (K10.out.below b1 K10.out.lt)
  clear K10
  have K10 := K10n
  clear K10n
  have HBn := Lib.hid (HB.out.trans (b1.mono HB.out.size))
  clear HB
  have HB := HBn
  clear HBn
  have HBxn := Lib.hid (HBx.out.trans (b1.mono HBx.out.size))
  clear HBx
  have HBx := HBxn
  clear HBxn
  clear b1 ca cb cc cd
  have ca : w11.cell? ⟨NX, 8, none⟩ = some (.slice A1 l.m c1) := (K7.out.cell 8).trans rfl
  have cb : w11.cell? ⟨N1, 8, none⟩ = some (.slice l.A l.m l.c) := (K1.out.cell 8).trans rfl
  have cc : w11.cell? ⟨NY, 9, none⟩ = some (.slice A2 h.m c2) := (K8.out.cell 9).trans rfl
  have cd : w11.cell? ⟨N3, 9, none⟩ = some (.slice h.A h.m h.c) := (K3.out.cell 9).trans rfl
  go_wp2_with fail
  refine ((sameAreas_b A2 h.A h.m c2 h.c L2 H w11 (HXH.out.below HBx.out) (HRH.out.below HB.out) (fun j hj => (HSH.out j hj).symm) (by have := HMH.out; omega))).mono ?_
  rintro e w12 ⟨rfl, b1⟩
  have K1n := Lib.hid (K1.out.below b1 K1.out.lt)
  clear K1
  have K1 := K1n
  clear K1n
  have K2n := Lib.hid (K2.out.below b1 K2.out.lt)
  clear K2
  have K2 := K2n
  clear K2n
  have K3n := Lib.hid (K3.out.below b1 K3.out.lt)
  clear K3
  have K3 := K3n
  clear K3n
  have K7n := Lib.hid (K7.out.below b1 K7.out.lt)
  clear K7
  have K7 := K7n
  clear K7n
  have K8n := Lib.hid (K8.out.below b1 K8.out.lt)
  clear K8
  have K8 := K8n
  clear K8n
  have K9n := Lib.hid (K9.out.below b1 K9.out.lt)
  clear K9
  have K9 := K9n
  clear K9n
  have K10n := Lib.hid (K10.out.below b1 K10.out.lt)
  clear K10
  have K10 := K10n
  clear K10n
  have HBn := Lib.hid (HB.out.trans (b1.mono HB.out.size))
  clear HB
  have HB := HBn
  clear HBn
  have HBxn := Lib.hid (HBx.out.trans (b1.mono HBx.out.size))
  clear HBx
  have HBx := HBxn
  clear HBxn
  clear b1 ca cb cc cd
  go_wp2_with fail
  go_ret
  exact ⟨rfl, HB.out⟩
end Go.Proofs.Ythmnbhmficdifaa
