/- The walk of AdjHolds: for every input the law returns true, and nothing that was there is written. No condition. -/
import Derived.Test.YthmnbhmficdifaaAThm
import Derived.Deep.DeepCutAuto
namespace Go.Proofs.Ythmnbhmficdifaa
open Go.RowKit
set_option linter.unusedVariables false

theorem wf_i32 {n : Int} (h : (Lit.int .i32 n).wf = true) : -2147483648 ≤ n ∧ n ≤ 2147483647 := by simp [Lit.wf, IntKind.min, IntKind.max, IntKind.signed, IntKind.bits] at h; omega
theorem stepR_holds (l : Lo) (h : He) (now : Int) (s : Bool) (R : Aj × Int) (hR : stepR l ajD h now s = R) (he : R.2 = 0) (hd : R.1.st ≠ 2) : (R.1.st = 0 ∨ R.1.st = 1) ∧ R.1.un = now + h.ho ∧ 1 ≤ h.ho ∧ h.ho ≤ 65535 := by
  subst hR
  by_cases hk : chkS l ajD h now ≠ 0
  · have e : stepR l ajD h now s = (ajD, chkS l ajD h now) := by unfold stepR; rw [if_pos hk]
    rw [e] at he
    exact absurd he hk
  have hk0 : chkS l ajD h now = 0 := by omega
  obtain ⟨_, _, _, _, hh, _⟩ := chk_zero hk0
  by_cases hc : comI l.lv h.lv s = 0
  · have e : stepR l ajD h now s = (ajD, 12) := by unfold stepR; rw [if_neg hk, if_pos hc]
    rw [e] at he
    cases he
  by_cases hn : (h.nm && (!eqY h.th l.s || h.tn != l.nu)) = true
  · have e : stepR l ajD h now s = (ajD, 0) := by unfold stepR; rw [if_neg hk, if_neg hc, if_pos hn]
    rw [e] at hd
    exact absurd rfl hd
  by_cases hb : behS (toS ajD h (comI l.lv h.lv s)) (ofS h) = 2
  · have e : stepR l ajD h now s = (ajD, 0) := by unfold stepR; rw [if_neg hk, if_neg hc, if_neg hn, if_pos hb]
    rw [e] at hd
    exact absurd rfl hd
  · have e : stepR l ajD h now s = (⟨behS (toS ajD h (comI l.lv h.lv s)) (ofS h), h.s, h.nu, comI l.lv h.lv s, now + h.ho⟩, 0) := by unfold stepR; rw [if_neg hk, if_neg hc, if_neg hn, if_neg hb]
    rw [e]
    have := behS_bd (toS ajD h (comI l.lv h.lv s)) (ofS h)
    exact ⟨by show behS _ _ = 0 ∨ behS _ _ = 1; omega, rfl, hh⟩
theorem build_down2 (W : World) (o : Oper) (e : Operand → Value) (x : Operand) (ho : o.op = .build 36 #[(0, x)]) (h0 : e x = .int .i64 2) : (execOp e o).run Try.prog W = .ok (.value (.agg (ajC ajD))) W := build_down o e 36 x ho h0 W
set_option maxHeartbeats 8000000 in
set_option maxRecDepth 100000 in
theorem walkAdjHolds (l : Lo) (L : Nat → Sl) (h : He) (H : Nat → Sl) (x : Int) (w : World) (w0 : InLo w l L) (w1 : InHe w h H) (w2 : (Lit.int .i32 x).wf = true) :
    Calls Try.prog 9 #[.agg (loC l), .agg (heC h), .int .i32 x] w fun e w' => e = .returned (.bool true) ∧ Below w.heap.size w w' := by
  obtain ⟨⟨hyl, _, _⟩, hrl, _, hml1, hml2⟩ := w0
  obtain ⟨⟨hyh, _, _, _, _, hyt, _⟩, hrh, _, hmh1, hmh2⟩ := w1
  have hx := wf_i32 w2
  obtain ⟨now, hnow⟩ : ∃ now, x + 2147483648 = now := ⟨_, rfl⟩
  have hnb : 0 ≤ now ∧ now ≤ 4294967295 := by omega
  have HN := Lib.hid hnow
  have HRL := Lib.hid hrl
  have HRH := Lib.hid hrh
  have HML : Hid (l.m * 24 ≤ 140737488351232) := Lib.hid (by omega)
  have HMH : Hid (h.m * 24 ≤ 140737488351232) := Lib.hid (by omega)
  obtain ⟨R1, hR1⟩ : ∃ R, stepR l ajD h now (shB L l.m H h.m) = R := ⟨_, rfl⟩
  have HHO := Lib.hid (stepR_holds l h now _ R1 hR1)
  have HYL := Lib.hid hyl
  have HYA1 : Hid (byB ajD.p) := Lib.hid by_z0
  have HYH := Lib.hid hyh
  have HYT := Lib.hid hyt
  have HYA2 : Hid (byB R1.1.p) := Lib.hid (by rw [← hR1]; exact stepR_by HYA1.out hyh)
  have HR1 := Lib.hid hR1
  clear hrl hrh hml1 hml2 hmh1 hmh2 hyl hyh hyt hR1 w2 hnow
  go_enter Try.func9, Try.ntmps9
  have HB := Lib.hid (Below.refl w.heap.size w)
  obtain ⟨N1, hN1⟩ : ∃ N, w.heap.size = N := ⟨_, rfl⟩
  have HN1 := Lib.hid hN1
  clear hN1
  go_wp2_with (refine wpList_box (op := ⟨some 3, _, _, _, _, _⟩) rfl 26 (.tmp 0) rfl (loC l) rfl N1 HN1.out ?_; intro w1 k1 b1 s1; refine Hid.out ?_)
  refine Lib.hid ?_
  have K1 := Lib.hid k1
  clear k1
  have le_HB_N1 : w.heap.size ≤ N1 := by rw [← HN1.out]; exact HB.out.size
  have HBn := Lib.hid (HB.out.trans (b1.mono HB.out.size))
  clear HB
  have HB := HBn
  clear HBn
  clear b1 HN1
  obtain ⟨N2, hN2⟩ : ∃ N, w1.heap.size = N := ⟨_, rfl⟩
  have HN2 := Lib.hid hN2
  clear hN2
  go_wp2_with (refine wpList_box (op := ⟨some 4, _, _, _, _, _⟩) rfl 30 (.tmp 1) rfl (heC h) rfl N2 HN2.out ?_; intro w2 k1 b1 s1; refine Hid.out ?_)
  refine Lib.hid ?_
  have K3 := Lib.hid k1
  clear k1
  have lt_N1_N2 : N1 < N2 := by rw [← HN2.out]; exact K1.out.lt
  have le_HB_N2 : w.heap.size ≤ N2 := by rw [← HN2.out]; exact HB.out.size
  have K1n := Lib.hid (K1.out.below b1 K1.out.lt)
  clear K1
  have K1 := K1n
  clear K1n
  have HBn := Lib.hid (HB.out.trans (b1.mono HB.out.size))
  clear HB
  have HB := HBn
  clear HBn
  clear b1 HN2
  go_wp2_with fail
  refine (awake_any _).mono ?_
  rintro e w3 ⟨rfl, b1⟩
  have K1n := Lib.hid (K1.out.below b1 K1.out.lt)
  clear K1
  have K1 := K1n
  clear K1n
  have K3n := Lib.hid (K3.out.below b1 K3.out.lt)
  clear K3
  have K3 := K3n
  clear K3n
  have HBn := Lib.hid (HB.out.trans (b1.mono HB.out.size))
  clear HB
  have HB := HBn
  clear HBn
  clear b1
  go_wp2_with fail
  rw [HN.out]
  go_cut [8, 9] (fun s1 s2 wc => ∃ N, s1 = .pointer (some ⟨N, 0, none⟩) ∧ s2 = .int .i64 R1.2 ∧ Hid (Blk 36 wc N (ajC R1.1)) ∧ N1 < N ∧ Hid (Blk 26 wc N1 (loC l)) ∧ N2 < N ∧ Hid (Blk 30 wc N2 (heC h)) ∧ w.heap.size ≤ N ∧ Hid (Below w.heap.size w wc))
  case first =>
    refine wp_region_held_drew (S := fun w' => Blk 26 w' N1 (loC l) ∧ Blk 30 w' N2 (heC h) ∧ Below w.heap.size w w') (by kernel_rfl) ⟨K1.out, K3.out, HB.out.drew⟩ (fun hS => ?_)
    generalize hW4 : w3.drew = W4 at hS ⊢
    clear hW4
    clear K1
    clear K3
    clear HB
    have K1 := Lib.hid hS.1
    have K3 := Lib.hid hS.2.1
    have HB := Lib.hid hS.2.2
    refine takeL (i := 0) (some 17) 26 (.tmp 3) N1 0 (loC l) _ rfl rfl (by kernel_rfl) (by kernel_rfl) (by kernel_rfl) (fun _ _ _ h => h) (by rfl) rfl rfl (fun w' hS => hS.1.all) Try.underlying26 rfl info_loR hS ?_
    simp only [Act.put, List.setIfInBounds_toArray, List.set_cons_zero, List.set_cons_succ]
    refine takeY (i := 2) (some 19) (v := .agg (ajC ajD)) rfl rfl (by kernel_rfl) (by kernel_rfl) (by kernel_rfl) (fun _ _ _ h => h) (by rfl) (fun w' hS => by kernel_rfl) hS ?_
    simp only [Act.put, List.setIfInBounds_toArray, List.set_cons_zero, List.set_cons_succ]
    refine takeL (i := 3) (some 20) 30 (.tmp 4) N2 0 (heC h) _ rfl rfl (by kernel_rfl) (by kernel_rfl) (by kernel_rfl) (fun _ _ _ h => h) (by rfl) rfl rfl (fun w' hS => hS.2.1.all) Try.underlying30 rfl info_heR hS ?_
    simp only [Act.put, List.setIfInBounds_toArray, List.set_cons_zero, List.set_cons_succ]
    refine takeY (i := 5) (some 22) (v := .int .i64 now) rfl rfl (by kernel_rfl) (by kernel_rfl) (by kernel_rfl) (fun _ _ _ h => h) (by rfl) (fun w' hS => by go_simp) hS ?_
    simp only [Act.put, List.setIfInBounds_toArray, List.set_cons_zero, List.set_cons_succ]
    obtain ⟨M0, hM0⟩ : ∃ N, W4.heap.size = N := ⟨_, rfl⟩
    have HM0 := Lib.hid hM0
    clear hM0
    refine wpAnyH_ready (show Region.ready _ _ _ = [1, 10] from by kernel_rfl) (by simp) (consCE (i := 1) (some 18) 11 #[.agg (loC l)] (R := fun v w' => LocV W4 l L v w') rfl rfl (by rfl) (by go_simp) (local_v l L W4 (HRL.out.below HB.out) HML.out) (fun v w' h => by obtain ⟨A1, c1, L1, rfl, hr1, hs1, hb1⟩ := h; exact ⟨hS.1.below hb1 hS.1.lt, hS.2.1.below hb1 hS.2.1.lt, hS.2.2.trans (hb1.mono hS.2.2.size)⟩) ?_ (consMk (i := 10) (some 8) 36 (ajC aj0) rfl rfl (by rfl) rfl zero_ajP M0 HM0.out ?_ AllReadyH.nil))
    · skip
      clear HM0
      intro v W5 h hS2
      obtain ⟨A1, c1, L1, rfl, hr1, hs1, hb1⟩ := h
      simp only [Act.put, List.setIfInBounds_toArray, List.set_cons_zero, List.set_cons_succ]
      clear K1
      clear K3
      clear HB
      clear hS
      have hS := hS2
      clear hS2
      have K1 := Lib.hid hS.1
      have K3 := Lib.hid hS.2.1
      have HB := Lib.hid hS.2.2
      have HXL := Lib.hid hr1
      have HSL := Lib.hid hs1
      clear hr1 hs1 hb1
      obtain ⟨M1, hM1⟩ : ∃ N, W5.heap.size = N := ⟨_, rfl⟩
      have HM1 := Lib.hid hM1
      clear hM1
      refine wpAnyH_ready (show Region.ready _ _ _ = [4, 10] from by kernel_rfl) (by simp) (consCE (i := 4) (some 21) 12 #[.agg (heC h)] (R := fun v w' => HelV W5 h H v w') rfl rfl (by rfl) (by go_simp) (hello_v h H W5 (HRH.out.below HB.out) HMH.out) (fun v w' h => by obtain ⟨B1, d1, H1, rfl, hr1, hs1, hb1⟩ := h; exact ⟨hS.1.below hb1 hS.1.lt, hS.2.1.below hb1 hS.2.1.lt, hS.2.2.trans (hb1.mono hS.2.2.size)⟩) ?_ (consMk (i := 10) (some 8) 36 (ajC aj0) rfl rfl (by rfl) rfl zero_ajP M1 HM1.out ?_ AllReadyH.nil))
      · skip
        clear HM1
        intro v W6 h hS2
        obtain ⟨B1, d1, H1, rfl, hr1, hs1, hb1⟩ := h
        simp only [Act.put, List.setIfInBounds_toArray, List.set_cons_zero, List.set_cons_succ]
        have HXLn := Lib.hid (HXL.out.below hb1)
        clear HXL
        have HXL := HXLn
        clear HXLn
        clear K1
        clear K3
        clear HB
        clear hS
        have hS := hS2
        clear hS2
        have K1 := Lib.hid hS.1
        have K3 := Lib.hid hS.2.1
        have HB := Lib.hid hS.2.2
        have HXH := Lib.hid hr1
        have HSH := Lib.hid hs1
        clear hr1 hs1 hb1
        obtain ⟨M2, hM2⟩ : ∃ N, W6.heap.size = N := ⟨_, rfl⟩
        have HM2 := Lib.hid hM2
        clear hM2
        refine wpAnyH_ready (show Region.ready _ _ _ = [6, 10] from by kernel_rfl) (by simp) (consC (i := 6) (some 23) 13 #[.agg (loC ⟨l.s, l.nu, l.lv, A1, l.m, c1⟩), .agg (ajC ajD), .agg (heC ⟨h.s, h.nu, h.lv, h.ho, B1, h.m, d1, h.st, h.nm, h.th, h.tn⟩), .int .i64 now] (.tuple #[.agg (ajC R1.1), .int .i64 R1.2]) (R := fun w' => Below W6.heap.size W6 w') rfl rfl (by rfl) (by go_simp) (step_law l ajD h now L H L1 H1 A1 B1 c1 d1 _ HYL.out HYA1.out HYH.out HYT.out HXL.out HXH.out (by have := HML.out; omega) (by have := HMH.out; omega) HSL.out HSH.out R1 HR1.out) (fun w' hb => ⟨hS.1.below hb hS.1.lt, hS.2.1.below hb hS.2.1.lt, hS.2.2.trans (hb.mono hS.2.2.size)⟩) ?_ (consMk (i := 10) (some 8) 36 (ajC aj0) rfl rfl (by rfl) rfl zero_ajP M2 HM2.out ?_ AllReadyH.nil))
        · skip
          clear HM2
          intro W7 hb1 hS2
          simp only [Act.put, List.setIfInBounds_toArray, List.set_cons_zero, List.set_cons_succ]
          have HXLn := Lib.hid (HXL.out.below hb1)
          clear HXL
          have HXL := HXLn
          clear HXLn
          have HXHn := Lib.hid (HXH.out.below hb1)
          clear HXH
          have HXH := HXHn
          clear HXHn
          clear K1
          clear K3
          clear HB
          clear hS
          have hS := hS2
          clear hS2
          have K1 := Lib.hid hS.1
          have K3 := Lib.hid hS.2.1
          have HB := Lib.hid hS.2.2
          clear HXL HXH HSL HSH
          clear hb1
          obtain ⟨M3, hM3⟩ : ∃ N, W7.heap.size = N := ⟨_, rfl⟩
          have HM3 := Lib.hid hM3
          clear hM3
          refine takeY (i := 7) (some 16) (v := .tuple #[.agg (ajC R1.1), .int .i64 R1.2]) rfl rfl (by kernel_rfl) (by kernel_rfl) (by kernel_rfl) (fun _ _ _ h => h) (by rfl) (fun w' hS => by go_simp) hS ?_
          simp only [Act.put, List.setIfInBounds_toArray, List.set_cons_zero, List.set_cons_succ]
          refine takeY (i := 8) (some 24) (v := .agg (ajC R1.1)) rfl rfl (by kernel_rfl) (by kernel_rfl) (by kernel_rfl) (fun _ _ _ h => h) (by rfl) (fun w' hS => by go_simp) hS ?_
          simp only [Act.put, List.setIfInBounds_toArray, List.set_cons_zero, List.set_cons_succ]
          refine takeY (i := 9) (some 25) (v := .int .i64 R1.2) rfl rfl (by kernel_rfl) (by kernel_rfl) (by kernel_rfl) (fun _ _ _ h => h) (by rfl) (fun w' hS => by go_simp) hS ?_
          simp only [Act.put, List.setIfInBounds_toArray, List.set_cons_zero, List.set_cons_succ]
          refine takeMk (i := 10) (some 8) 36 (ajC aj0) rfl rfl (by kernel_rfl) (by rfl) rfl zero_ajP M3 HM3.out ?_
          intro W8 k1 b1 s1
          refine ⟨⟨hS.1.below b1 hS.1.lt, hS.2.1.below b1 hS.2.1.lt, hS.2.2.trans (b1.mono hS.2.2.size)⟩, ?_⟩
          simp only [Act.put, List.setIfInBounds_toArray, List.set_cons_zero, List.set_cons_succ]
          have K4 := Lib.hid k1
          clear k1
          have lt_N1_M3 : N1 < M3 := by rw [← HM3.out]; exact K1.out.lt
          have lt_N2_M3 : N2 < M3 := by rw [← HM3.out]; exact K3.out.lt
          have le_HB_M3 : w.heap.size ≤ M3 := by rw [← HM3.out]; exact HB.out.size
          have K1n := Lib.hid (K1.out.below b1 K1.out.lt)
          clear K1
          have K1 := K1n
          clear K1n
          have K3n := Lib.hid (K3.out.below b1 K3.out.lt)
          clear K3
          have K3 := K3n
          clear K3n
          have HBn := Lib.hid (HB.out.trans (b1.mono HB.out.size))
          clear HB
          have HB := HBn
          clear HBn
          clear b1 HM3 hS
          have hS := (And.intro K1.out (And.intro K3.out HB.out))
          refine takeSt (i := 11) 36 (.tmp 8) (.tmp 24) M3 0 (.agg (ajC R1.1)) (ajC R1.1) (ajC R1.1) rfl rfl (by kernel_rfl) (by rfl) rfl rfl rfl rfl info_ajP (ajC_one _) K4.out (Nat.le_of_ble_eq_true rfl) (by kernel_rfl) ?_
          intro W9 q1
          refine ⟨⟨K1.out.far q1 (by omega), K3.out.far q1 (by omega), HB.out.trans (q1.2.1 _ (by omega))⟩, ?_⟩
          simp only [Act.put, List.setIfInBounds_toArray, List.set_cons_zero, List.set_cons_succ]
          have K4n : Hid (Blk 36 W9 M3 (ajC R1.1)) := Lib.hid q1.1
          clear K4
          have K4 := K4n
          clear K4n
          have K1n := Lib.hid (K1.out.far q1 (by omega))
          clear K1
          have K1 := K1n
          clear K1n
          have K3n := Lib.hid (K3.out.far q1 (by omega))
          clear K3
          have K3 := K3n
          clear K3n
          have HBn := Lib.hid (HB.out.trans (q1.2.1 _ (by omega)))
          clear HB
          have HB := HBn
          clear HBn
          clear q1 hS
          have hS := (And.intro K1.out (And.intro K3.out HB.out))
          refine takeY (i := 12) (some 9) (v := .int .i64 R1.2) rfl rfl (by kernel_rfl) (by kernel_rfl) (by kernel_rfl) (fun _ _ _ h => h) (by rfl) (fun w' hS => by go_simp) hS ?_
          simp only [Act.put, List.setIfInBounds_toArray, List.set_cons_zero, List.set_cons_succ]
          clear hS
          refine wpAnyH_done (by kernel_rfl) ?_ _
          go_wp2_with fail
          go_meet
          case rel => exact ⟨M3, rfl, rfl, K4, lt_N1_M3, K1, lt_N2_M3, K3, le_HB_M3, HB⟩
        · skip
          intro W8 k1 b1 s1
          refine ⟨⟨hS.1.below b1 hS.1.lt, hS.2.1.below b1 hS.2.1.lt, hS.2.2.trans (b1.mono hS.2.2.size)⟩, ?_⟩
          simp only [Act.put, List.setIfInBounds_toArray, List.set_cons_zero, List.set_cons_succ]
          have K4 := Lib.hid k1
          clear k1
          have lt_N1_M2 : N1 < M2 := by rw [← HM2.out]; exact K1.out.lt
          have lt_N2_M2 : N2 < M2 := by rw [← HM2.out]; exact K3.out.lt
          have le_HB_M2 : w.heap.size ≤ M2 := by rw [← HM2.out]; exact HB.out.size
          have HXLn := Lib.hid (HXL.out.below b1)
          clear HXL
          have HXL := HXLn
          clear HXLn
          have HXHn := Lib.hid (HXH.out.below b1)
          clear HXH
          have HXH := HXHn
          clear HXHn
          have K1n := Lib.hid (K1.out.below b1 K1.out.lt)
          clear K1
          have K1 := K1n
          clear K1n
          have K3n := Lib.hid (K3.out.below b1 K3.out.lt)
          clear K3
          have K3 := K3n
          clear K3n
          have HBn := Lib.hid (HB.out.trans (b1.mono HB.out.size))
          clear HB
          have HB := HBn
          clear HBn
          clear b1 HM2 hS
          have hS := (And.intro K1.out (And.intro K3.out HB.out))
          refine takeC (i := 6) (some 23) 13 #[.agg (loC ⟨l.s, l.nu, l.lv, A1, l.m, c1⟩), .agg (ajC ajD), .agg (heC ⟨h.s, h.nu, h.lv, h.ho, B1, h.m, d1, h.st, h.nm, h.th, h.tn⟩), .int .i64 now] (.tuple #[.agg (ajC R1.1), .int .i64 R1.2]) (R := fun w' => Below W8.heap.size W8 w') rfl rfl (by kernel_rfl) (by rfl) (by go_simp) (step_law l ajD h now L H L1 H1 A1 B1 c1 d1 _ HYL.out HYA1.out HYH.out HYT.out HXL.out HXH.out (by have := HML.out; omega) (by have := HMH.out; omega) HSL.out HSH.out R1 HR1.out) (fun w' hb => ⟨hS.1.below hb hS.1.lt, hS.2.1.below hb hS.2.1.lt, hS.2.2.trans (hb.mono hS.2.2.size)⟩) ?_
          intro W9 hb1 hS2
          simp only [Act.put, List.setIfInBounds_toArray, List.set_cons_zero, List.set_cons_succ]
          have HXLn := Lib.hid (HXL.out.below hb1)
          clear HXL
          have HXL := HXLn
          clear HXLn
          have HXHn := Lib.hid (HXH.out.below hb1)
          clear HXH
          have HXH := HXHn
          clear HXHn
          have K4n := Lib.hid (K4.out.below hb1 K4.out.lt)
          clear K4
          have K4 := K4n
          clear K4n
          clear K1
          clear K3
          clear HB
          clear hS
          have hS := hS2
          clear hS2
          have K1 := Lib.hid hS.1
          have K3 := Lib.hid hS.2.1
          have HB := Lib.hid hS.2.2
          clear HXL HXH HSL HSH
          clear hb1
          refine takeY (i := 7) (some 16) (v := .tuple #[.agg (ajC R1.1), .int .i64 R1.2]) rfl rfl (by kernel_rfl) (by kernel_rfl) (by kernel_rfl) (fun _ _ _ h => h) (by rfl) (fun w' hS => by go_simp) hS ?_
          simp only [Act.put, List.setIfInBounds_toArray, List.set_cons_zero, List.set_cons_succ]
          refine takeY (i := 8) (some 24) (v := .agg (ajC R1.1)) rfl rfl (by kernel_rfl) (by kernel_rfl) (by kernel_rfl) (fun _ _ _ h => h) (by rfl) (fun w' hS => by go_simp) hS ?_
          simp only [Act.put, List.setIfInBounds_toArray, List.set_cons_zero, List.set_cons_succ]
          refine takeY (i := 9) (some 25) (v := .int .i64 R1.2) rfl rfl (by kernel_rfl) (by kernel_rfl) (by kernel_rfl) (fun _ _ _ h => h) (by rfl) (fun w' hS => by go_simp) hS ?_
          simp only [Act.put, List.setIfInBounds_toArray, List.set_cons_zero, List.set_cons_succ]
          refine takeSt (i := 11) 36 (.tmp 8) (.tmp 24) M2 0 (.agg (ajC R1.1)) (ajC R1.1) (ajC R1.1) rfl rfl (by kernel_rfl) (by rfl) rfl rfl rfl rfl info_ajP (ajC_one _) K4.out (Nat.le_of_ble_eq_true rfl) (by kernel_rfl) ?_
          intro W10 q1
          refine ⟨⟨K1.out.far q1 (by omega), K3.out.far q1 (by omega), HB.out.trans (q1.2.1 _ (by omega))⟩, ?_⟩
          simp only [Act.put, List.setIfInBounds_toArray, List.set_cons_zero, List.set_cons_succ]
          have K4n : Hid (Blk 36 W10 M2 (ajC R1.1)) := Lib.hid q1.1
          clear K4
          have K4 := K4n
          clear K4n
          have K1n := Lib.hid (K1.out.far q1 (by omega))
          clear K1
          have K1 := K1n
          clear K1n
          have K3n := Lib.hid (K3.out.far q1 (by omega))
          clear K3
          have K3 := K3n
          clear K3n
          have HBn := Lib.hid (HB.out.trans (q1.2.1 _ (by omega)))
          clear HB
          have HB := HBn
          clear HBn
          clear q1 hS
          have hS := (And.intro K1.out (And.intro K3.out HB.out))
          refine takeY (i := 12) (some 9) (v := .int .i64 R1.2) rfl rfl (by kernel_rfl) (by kernel_rfl) (by kernel_rfl) (fun _ _ _ h => h) (by rfl) (fun w' hS => by go_simp) hS ?_
          simp only [Act.put, List.setIfInBounds_toArray, List.set_cons_zero, List.set_cons_succ]
          clear hS
          refine wpAnyH_done (by kernel_rfl) ?_ _
          go_wp2_with fail
          go_meet
          case rel => exact ⟨M2, rfl, rfl, K4, lt_N1_M2, K1, lt_N2_M2, K3, le_HB_M2, HB⟩
      · skip
        intro W7 k1 b1 s1
        refine ⟨⟨hS.1.below b1 hS.1.lt, hS.2.1.below b1 hS.2.1.lt, hS.2.2.trans (b1.mono hS.2.2.size)⟩, ?_⟩
        simp only [Act.put, List.setIfInBounds_toArray, List.set_cons_zero, List.set_cons_succ]
        have K4 := Lib.hid k1
        clear k1
        have lt_N1_M1 : N1 < M1 := by rw [← HM1.out]; exact K1.out.lt
        have lt_N2_M1 : N2 < M1 := by rw [← HM1.out]; exact K3.out.lt
        have le_HB_M1 : w.heap.size ≤ M1 := by rw [← HM1.out]; exact HB.out.size
        have HXLn := Lib.hid (HXL.out.below b1)
        clear HXL
        have HXL := HXLn
        clear HXLn
        have K1n := Lib.hid (K1.out.below b1 K1.out.lt)
        clear K1
        have K1 := K1n
        clear K1n
        have K3n := Lib.hid (K3.out.below b1 K3.out.lt)
        clear K3
        have K3 := K3n
        clear K3n
        have HBn := Lib.hid (HB.out.trans (b1.mono HB.out.size))
        clear HB
        have HB := HBn
        clear HBn
        clear b1 HM1 hS
        have hS := (And.intro K1.out (And.intro K3.out HB.out))
        refine takeCE (i := 4) (some 21) 12 #[.agg (heC h)] (R := fun v w' => HelV W7 h H v w') rfl rfl (by kernel_rfl) (by rfl) (by go_simp) (hello_v h H W7 (HRH.out.below HB.out) HMH.out) (fun v w' h => by obtain ⟨B1, d1, H1, rfl, hr1, hs1, hb1⟩ := h; exact ⟨hS.1.below hb1 hS.1.lt, hS.2.1.below hb1 hS.2.1.lt, hS.2.2.trans (hb1.mono hS.2.2.size)⟩) ?_
        intro v W8 h hS2
        obtain ⟨B1, d1, H1, rfl, hr1, hs1, hb1⟩ := h
        simp only [Act.put, List.setIfInBounds_toArray, List.set_cons_zero, List.set_cons_succ]
        have HXLn := Lib.hid (HXL.out.below hb1)
        clear HXL
        have HXL := HXLn
        clear HXLn
        have K4n := Lib.hid (K4.out.below hb1 K4.out.lt)
        clear K4
        have K4 := K4n
        clear K4n
        clear K1
        clear K3
        clear HB
        clear hS
        have hS := hS2
        clear hS2
        have K1 := Lib.hid hS.1
        have K3 := Lib.hid hS.2.1
        have HB := Lib.hid hS.2.2
        have HXH := Lib.hid hr1
        have HSH := Lib.hid hs1
        clear hr1 hs1 hb1
        refine takeC (i := 6) (some 23) 13 #[.agg (loC ⟨l.s, l.nu, l.lv, A1, l.m, c1⟩), .agg (ajC ajD), .agg (heC ⟨h.s, h.nu, h.lv, h.ho, B1, h.m, d1, h.st, h.nm, h.th, h.tn⟩), .int .i64 now] (.tuple #[.agg (ajC R1.1), .int .i64 R1.2]) (R := fun w' => Below W8.heap.size W8 w') rfl rfl (by kernel_rfl) (by rfl) (by go_simp) (step_law l ajD h now L H L1 H1 A1 B1 c1 d1 _ HYL.out HYA1.out HYH.out HYT.out HXL.out HXH.out (by have := HML.out; omega) (by have := HMH.out; omega) HSL.out HSH.out R1 HR1.out) (fun w' hb => ⟨hS.1.below hb hS.1.lt, hS.2.1.below hb hS.2.1.lt, hS.2.2.trans (hb.mono hS.2.2.size)⟩) ?_
        intro W9 hb1 hS2
        simp only [Act.put, List.setIfInBounds_toArray, List.set_cons_zero, List.set_cons_succ]
        have HXLn := Lib.hid (HXL.out.below hb1)
        clear HXL
        have HXL := HXLn
        clear HXLn
        have HXHn := Lib.hid (HXH.out.below hb1)
        clear HXH
        have HXH := HXHn
        clear HXHn
        have K4n := Lib.hid (K4.out.below hb1 K4.out.lt)
        clear K4
        have K4 := K4n
        clear K4n
        clear K1
        clear K3
        clear HB
        clear hS
        have hS := hS2
        clear hS2
        have K1 := Lib.hid hS.1
        have K3 := Lib.hid hS.2.1
        have HB := Lib.hid hS.2.2
        clear HXL HXH HSL HSH
        clear hb1
        refine takeY (i := 7) (some 16) (v := .tuple #[.agg (ajC R1.1), .int .i64 R1.2]) rfl rfl (by kernel_rfl) (by kernel_rfl) (by kernel_rfl) (fun _ _ _ h => h) (by rfl) (fun w' hS => by go_simp) hS ?_
        simp only [Act.put, List.setIfInBounds_toArray, List.set_cons_zero, List.set_cons_succ]
        refine takeY (i := 8) (some 24) (v := .agg (ajC R1.1)) rfl rfl (by kernel_rfl) (by kernel_rfl) (by kernel_rfl) (fun _ _ _ h => h) (by rfl) (fun w' hS => by go_simp) hS ?_
        simp only [Act.put, List.setIfInBounds_toArray, List.set_cons_zero, List.set_cons_succ]
        refine takeY (i := 9) (some 25) (v := .int .i64 R1.2) rfl rfl (by kernel_rfl) (by kernel_rfl) (by kernel_rfl) (fun _ _ _ h => h) (by rfl) (fun w' hS => by go_simp) hS ?_
        simp only [Act.put, List.setIfInBounds_toArray, List.set_cons_zero, List.set_cons_succ]
        refine takeSt (i := 11) 36 (.tmp 8) (.tmp 24) M1 0 (.agg (ajC R1.1)) (ajC R1.1) (ajC R1.1) rfl rfl (by kernel_rfl) (by rfl) rfl rfl rfl rfl info_ajP (ajC_one _) K4.out (Nat.le_of_ble_eq_true rfl) (by kernel_rfl) ?_
        intro W10 q1
        refine ⟨⟨K1.out.far q1 (by omega), K3.out.far q1 (by omega), HB.out.trans (q1.2.1 _ (by omega))⟩, ?_⟩
        simp only [Act.put, List.setIfInBounds_toArray, List.set_cons_zero, List.set_cons_succ]
        have K4n : Hid (Blk 36 W10 M1 (ajC R1.1)) := Lib.hid q1.1
        clear K4
        have K4 := K4n
        clear K4n
        have K1n := Lib.hid (K1.out.far q1 (by omega))
        clear K1
        have K1 := K1n
        clear K1n
        have K3n := Lib.hid (K3.out.far q1 (by omega))
        clear K3
        have K3 := K3n
        clear K3n
        have HBn := Lib.hid (HB.out.trans (q1.2.1 _ (by omega)))
        clear HB
        have HB := HBn
        clear HBn
        clear q1 hS
        have hS := (And.intro K1.out (And.intro K3.out HB.out))
        refine takeY (i := 12) (some 9) (v := .int .i64 R1.2) rfl rfl (by kernel_rfl) (by kernel_rfl) (by kernel_rfl) (fun _ _ _ h => h) (by rfl) (fun w' hS => by go_simp) hS ?_
        simp only [Act.put, List.setIfInBounds_toArray, List.set_cons_zero, List.set_cons_succ]
        clear hS
        refine wpAnyH_done (by kernel_rfl) ?_ _
        go_wp2_with fail
        go_meet
        case rel => exact ⟨M1, rfl, rfl, K4, lt_N1_M1, K1, lt_N2_M1, K3, le_HB_M1, HB⟩
    · skip
      intro W6 k1 b1 s1
      refine ⟨⟨hS.1.below b1 hS.1.lt, hS.2.1.below b1 hS.2.1.lt, hS.2.2.trans (b1.mono hS.2.2.size)⟩, ?_⟩
      simp only [Act.put, List.setIfInBounds_toArray, List.set_cons_zero, List.set_cons_succ]
      have K4 := Lib.hid k1
      clear k1
      have lt_N1_M0 : N1 < M0 := by rw [← HM0.out]; exact K1.out.lt
      have lt_N2_M0 : N2 < M0 := by rw [← HM0.out]; exact K3.out.lt
      have le_HB_M0 : w.heap.size ≤ M0 := by rw [← HM0.out]; exact HB.out.size
      have K1n := Lib.hid (K1.out.below b1 K1.out.lt)
      clear K1
      have K1 := K1n
      clear K1n
      have K3n := Lib.hid (K3.out.below b1 K3.out.lt)
      clear K3
      have K3 := K3n
      clear K3n
      have HBn := Lib.hid (HB.out.trans (b1.mono HB.out.size))
      clear HB
      have HB := HBn
      clear HBn
      clear b1 HM0 hS
      have hS := (And.intro K1.out (And.intro K3.out HB.out))
      refine takeCE (i := 1) (some 18) 11 #[.agg (loC l)] (R := fun v w' => LocV W6 l L v w') rfl rfl (by kernel_rfl) (by rfl) (by go_simp) (local_v l L W6 (HRL.out.below HB.out) HML.out) (fun v w' h => by obtain ⟨A1, c1, L1, rfl, hr1, hs1, hb1⟩ := h; exact ⟨hS.1.below hb1 hS.1.lt, hS.2.1.below hb1 hS.2.1.lt, hS.2.2.trans (hb1.mono hS.2.2.size)⟩) ?_
      intro v W7 h hS2
      obtain ⟨A1, c1, L1, rfl, hr1, hs1, hb1⟩ := h
      simp only [Act.put, List.setIfInBounds_toArray, List.set_cons_zero, List.set_cons_succ]
      have K4n := Lib.hid (K4.out.below hb1 K4.out.lt)
      clear K4
      have K4 := K4n
      clear K4n
      clear K1
      clear K3
      clear HB
      clear hS
      have hS := hS2
      clear hS2
      have K1 := Lib.hid hS.1
      have K3 := Lib.hid hS.2.1
      have HB := Lib.hid hS.2.2
      have HXL := Lib.hid hr1
      have HSL := Lib.hid hs1
      clear hr1 hs1 hb1
      refine takeCE (i := 4) (some 21) 12 #[.agg (heC h)] (R := fun v w' => HelV W7 h H v w') rfl rfl (by kernel_rfl) (by rfl) (by go_simp) (hello_v h H W7 (HRH.out.below HB.out) HMH.out) (fun v w' h => by obtain ⟨B1, d1, H1, rfl, hr1, hs1, hb1⟩ := h; exact ⟨hS.1.below hb1 hS.1.lt, hS.2.1.below hb1 hS.2.1.lt, hS.2.2.trans (hb1.mono hS.2.2.size)⟩) ?_
      intro v W8 h hS2
      obtain ⟨B1, d1, H1, rfl, hr1, hs1, hb1⟩ := h
      simp only [Act.put, List.setIfInBounds_toArray, List.set_cons_zero, List.set_cons_succ]
      have HXLn := Lib.hid (HXL.out.below hb1)
      clear HXL
      have HXL := HXLn
      clear HXLn
      have K4n := Lib.hid (K4.out.below hb1 K4.out.lt)
      clear K4
      have K4 := K4n
      clear K4n
      clear K1
      clear K3
      clear HB
      clear hS
      have hS := hS2
      clear hS2
      have K1 := Lib.hid hS.1
      have K3 := Lib.hid hS.2.1
      have HB := Lib.hid hS.2.2
      have HXH := Lib.hid hr1
      have HSH := Lib.hid hs1
      clear hr1 hs1 hb1
      refine takeC (i := 6) (some 23) 13 #[.agg (loC ⟨l.s, l.nu, l.lv, A1, l.m, c1⟩), .agg (ajC ajD), .agg (heC ⟨h.s, h.nu, h.lv, h.ho, B1, h.m, d1, h.st, h.nm, h.th, h.tn⟩), .int .i64 now] (.tuple #[.agg (ajC R1.1), .int .i64 R1.2]) (R := fun w' => Below W8.heap.size W8 w') rfl rfl (by kernel_rfl) (by rfl) (by go_simp) (step_law l ajD h now L H L1 H1 A1 B1 c1 d1 _ HYL.out HYA1.out HYH.out HYT.out HXL.out HXH.out (by have := HML.out; omega) (by have := HMH.out; omega) HSL.out HSH.out R1 HR1.out) (fun w' hb => ⟨hS.1.below hb hS.1.lt, hS.2.1.below hb hS.2.1.lt, hS.2.2.trans (hb.mono hS.2.2.size)⟩) ?_
      intro W9 hb1 hS2
      simp only [Act.put, List.setIfInBounds_toArray, List.set_cons_zero, List.set_cons_succ]
      have HXLn := Lib.hid (HXL.out.below hb1)
      clear HXL
      have HXL := HXLn
      clear HXLn
      have HXHn := Lib.hid (HXH.out.below hb1)
      clear HXH
      have HXH := HXHn
      clear HXHn
      have K4n := Lib.hid (K4.out.below hb1 K4.out.lt)
      clear K4
      have K4 := K4n
      clear K4n
      clear K1
      clear K3
      clear HB
      clear hS
      have hS := hS2
      clear hS2
      have K1 := Lib.hid hS.1
      have K3 := Lib.hid hS.2.1
      have HB := Lib.hid hS.2.2
      clear HXL HXH HSL HSH
      clear hb1
      refine takeY (i := 7) (some 16) (v := .tuple #[.agg (ajC R1.1), .int .i64 R1.2]) rfl rfl (by kernel_rfl) (by kernel_rfl) (by kernel_rfl) (fun _ _ _ h => h) (by rfl) (fun w' hS => by go_simp) hS ?_
      simp only [Act.put, List.setIfInBounds_toArray, List.set_cons_zero, List.set_cons_succ]
      refine takeY (i := 8) (some 24) (v := .agg (ajC R1.1)) rfl rfl (by kernel_rfl) (by kernel_rfl) (by kernel_rfl) (fun _ _ _ h => h) (by rfl) (fun w' hS => by go_simp) hS ?_
      simp only [Act.put, List.setIfInBounds_toArray, List.set_cons_zero, List.set_cons_succ]
      refine takeY (i := 9) (some 25) (v := .int .i64 R1.2) rfl rfl (by kernel_rfl) (by kernel_rfl) (by kernel_rfl) (fun _ _ _ h => h) (by rfl) (fun w' hS => by go_simp) hS ?_
      simp only [Act.put, List.setIfInBounds_toArray, List.set_cons_zero, List.set_cons_succ]
      refine takeSt (i := 11) 36 (.tmp 8) (.tmp 24) M0 0 (.agg (ajC R1.1)) (ajC R1.1) (ajC R1.1) rfl rfl (by kernel_rfl) (by rfl) rfl rfl rfl rfl info_ajP (ajC_one _) K4.out (Nat.le_of_ble_eq_true rfl) (by kernel_rfl) ?_
      intro W10 q1
      refine ⟨⟨K1.out.far q1 (by omega), K3.out.far q1 (by omega), HB.out.trans (q1.2.1 _ (by omega))⟩, ?_⟩
      simp only [Act.put, List.setIfInBounds_toArray, List.set_cons_zero, List.set_cons_succ]
      have K4n : Hid (Blk 36 W10 M0 (ajC R1.1)) := Lib.hid q1.1
      clear K4
      have K4 := K4n
      clear K4n
      have K1n := Lib.hid (K1.out.far q1 (by omega))
      clear K1
      have K1 := K1n
      clear K1n
      have K3n := Lib.hid (K3.out.far q1 (by omega))
      clear K3
      have K3 := K3n
      clear K3n
      have HBn := Lib.hid (HB.out.trans (q1.2.1 _ (by omega)))
      clear HB
      have HB := HBn
      clear HBn
      clear q1 hS
      have hS := (And.intro K1.out (And.intro K3.out HB.out))
      refine takeY (i := 12) (some 9) (v := .int .i64 R1.2) rfl rfl (by kernel_rfl) (by kernel_rfl) (by kernel_rfl) (fun _ _ _ h => h) (by rfl) (fun w' hS => by go_simp) hS ?_
      simp only [Act.put, List.setIfInBounds_toArray, List.set_cons_zero, List.set_cons_succ]
      clear hS
      refine wpAnyH_done (by kernel_rfl) ?_ _
      go_wp2_with fail
      go_meet
      case rel => exact ⟨M0, rfl, rfl, K4, lt_N1_M0, K1, lt_N2_M0, K3, le_HB_M0, HB⟩
  case rest =>
  clear K1
  clear K3
  clear HB
  obtain ⟨NK4, rfl, rfl, K4, lt_N1_NK4, K1, lt_N2_NK4, K3, le_HB_NK4, HB⟩ := hcut
  obtain ⟨E, hE⟩ : ∃ E, R1.2 = E := ⟨_, rfl⟩
  have HHE := HHO.out
  rw [hE] at HHE ⊢
  have HHF := Lib.hid HHE
  clear hE HHO HHE
  have c4 : wc.cell? ⟨NK4, 0, none⟩ = some (.int .i64 R1.1.st) := (K4.out.cell 0).trans rfl
  by_cases he : E = 0
  · subst he
    by_cases hd : R1.1.st = 2
    · skip
      have hdb : (R1.1.st == 2) = true := by simpa using hd
      clear hd HHF
      go_wp2_with fail
      go_ret
      exact ⟨rfl, HB.out⟩
    have hdb : (R1.1.st == 2) = false := by simpa using hd
    obtain ⟨g1, g2, g3, g4⟩ := HHF.out rfl hd
    obtain ⟨n, hn⟩ : ∃ n, now + h.ho = n := ⟨_, rfl⟩
    have hnn : now < n ∧ n ≤ 4295032832 := by omega
    have HTH : thB R1.1.st = true := by unfold thB; rcases g1 with g | g <;> rw [g] <;> rfl
    have HE1 := Lib.hid (fun (w : World) => expire_any R1.1 now w)
    have HE2 := Lib.hid (fun (w : World) => expire_any R1.1 (n - 1) w)
    have HE3 := Lib.hid (fun (w : World) => expire_any R1.1 n w)
    have HE4 := Lib.hid (fun (w : World) => expire_any R1.1 (n + 1000) w)
    rw [show expR R1.1 now = R1.1 from by unfold expR; rw [if_neg]; rw [g2, hn]; simp; omega] at HE1
    rw [show expR R1.1 (n - 1) = R1.1 from by unfold expR; rw [if_neg]; rw [g2, hn]; simp; omega] at HE2
    rw [show expR R1.1 n = ajD from by unfold expR; rw [if_pos]; rw [HTH, g2, hn]; simp] at HE3
    rw [show expR R1.1 (n + 1000) = ajD from by unfold expR; rw [if_pos]; rw [HTH, g2, hn]; simp; omega] at HE4
    have HN2 := Lib.hid hn
    have c5 : wc.cell? ⟨N2, 8, none⟩ = some (.int .i64 h.ho) := (K3.out.cell 8).trans rfl
    clear hn g1 g2 HTH hd HHF
    go_wp2_with fail
    rw [HN2.out]
    have HSA := Lib.hid (self_ajP R1.1 HYA2.out)
    have HSD := Lib.hid (self_ajP ajD by_z0)
    have HW1 : Hid (IntKind.i64.wrap (n - 1) = n - 1) := Lib.hid (IntWalk.i64_in _ (by omega))
    have HW2 : Hid (IntKind.i64.wrap (n + 1000) = n + 1000) := Lib.hid (IntWalk.i64_in _ (by omega))
    clear c4 c5 hdb
    refine wp_region_held_drew (S := fun w' => Blk 26 w' N1 (loC l) ∧ Blk 30 w' N2 (heC h) ∧ Blk 36 w' NK4 (ajC R1.1) ∧ Below w.heap.size w w') (by kernel_rfl) ⟨K1.out, K3.out, K4.out, HB.out.drew⟩ (fun hS => ?_)
    generalize hW5 : wc.drew = W5 at hS ⊢
    clear hW5
    clear K1
    clear K3
    clear K4
    clear HB
    have K1 := Lib.hid hS.1
    have K3 := Lib.hid hS.2.1
    have K4 := Lib.hid hS.2.2.1
    have HB := Lib.hid hS.2.2.2
    refine takeL (i := 0) (some 37) 36 (.tmp 8) NK4 0 (ajC R1.1) _ rfl rfl (by kernel_rfl) (by kernel_rfl) (by kernel_rfl) (fun _ _ _ h => h) (by rfl) rfl rfl (fun w' hS => hS.2.2.1.all) Try.underlying36 rfl info_ajP hS ?_
    simp only [Act.put, List.setIfInBounds_toArray, List.set_cons_zero, List.set_cons_succ]
    refine takeY (i := 1) (some 38) (v := .int .i64 now) rfl rfl (by kernel_rfl) (by kernel_rfl) (by kernel_rfl) (fun _ _ _ h => h) (by rfl) (fun w' hS => by go_simp) hS ?_
    simp only [Act.put, List.setIfInBounds_toArray, List.set_cons_zero, List.set_cons_succ]
    refine takeL (i := 3) (some 40) 36 (.tmp 8) NK4 0 (ajC R1.1) _ rfl rfl (by kernel_rfl) (by kernel_rfl) (by kernel_rfl) (fun _ _ _ h => h) (by rfl) rfl rfl (fun w' hS => hS.2.2.1.all) Try.underlying36 rfl info_ajP hS ?_
    simp only [Act.put, List.setIfInBounds_toArray, List.set_cons_zero, List.set_cons_succ]
    refine takeC (i := 2) (some 39) 19 #[.agg (ajC R1.1), .int .i64 now] (.agg (ajC R1.1)) (R := fun w' => Below W5.heap.size W5 w') rfl rfl (by kernel_rfl) (by rfl) (by go_simp) (HE1.out _) (fun w' hb => ⟨hS.1.below hb hS.1.lt, hS.2.1.below hb hS.2.1.lt, hS.2.2.1.below hb hS.2.2.1.lt, hS.2.2.2.trans (hb.mono hS.2.2.2.size)⟩) (fun W6 hb1 hS2 => ?_)
    simp only [Act.put, List.setIfInBounds_toArray, List.set_cons_zero, List.set_cons_succ]
    clear K1
    clear K3
    clear K4
    clear HB
    clear hS hb1
    have hS := hS2
    clear hS2
    have K1 := Lib.hid hS.1
    have K3 := Lib.hid hS.2.1
    have K4 := Lib.hid hS.2.2.1
    have HB := Lib.hid hS.2.2.2
    refine takeY (i := 4) (some 41) (v := .bool true) rfl rfl (by kernel_rfl) (by kernel_rfl) (by kernel_rfl) (fun _ _ _ h => h) (by rfl) (fun w' hS => by (exact eql_self _ _ _ _ _ _ rfl rfl guard_ajP _ HSA.out rfl rfl _)) hS ?_
    simp only [Act.put, List.setIfInBounds_toArray, List.set_cons_zero, List.set_cons_succ]
    refine takeY (i := 5) (some 42) (v := .bool true) rfl rfl (by kernel_rfl) (by kernel_rfl) (by kernel_rfl) (fun _ _ _ h => h) (by rfl) (fun w' hS => by go_simp) hS ?_
    simp only [Act.put, List.setIfInBounds_toArray, List.set_cons_zero, List.set_cons_succ]
    refine takeL (i := 6) (some 43) 36 (.tmp 8) NK4 0 (ajC R1.1) _ rfl rfl (by kernel_rfl) (by kernel_rfl) (by kernel_rfl) (fun _ _ _ h => h) (by rfl) rfl rfl (fun w' hS => hS.2.2.1.all) Try.underlying36 rfl info_ajP hS ?_
    simp only [Act.put, List.setIfInBounds_toArray, List.set_cons_zero, List.set_cons_succ]
    refine takeY (i := 7) (some 44) (v := .int .i64 n) rfl rfl (by kernel_rfl) (by kernel_rfl) (by kernel_rfl) (fun _ _ _ h => h) (by rfl) (fun w' hS => by go_simp) hS ?_
    simp only [Act.put, List.setIfInBounds_toArray, List.set_cons_zero, List.set_cons_succ]
    refine takeY (i := 8) (some 45) (v := .int .i64 (n - 1)) rfl rfl (by kernel_rfl) (by kernel_rfl) (by kernel_rfl) (fun _ _ _ h => h) (by rfl) (fun w' hS => by (have hq := HW1.out; go_simp)) hS ?_
    simp only [Act.put, List.setIfInBounds_toArray, List.set_cons_zero, List.set_cons_succ]
    refine takeL (i := 10) (some 47) 36 (.tmp 8) NK4 0 (ajC R1.1) _ rfl rfl (by kernel_rfl) (by kernel_rfl) (by kernel_rfl) (fun _ _ _ h => h) (by rfl) rfl rfl (fun w' hS => hS.2.2.1.all) Try.underlying36 rfl info_ajP hS ?_
    simp only [Act.put, List.setIfInBounds_toArray, List.set_cons_zero, List.set_cons_succ]
    refine takeC (i := 9) (some 46) 19 #[.agg (ajC R1.1), .int .i64 (n - 1)] (.agg (ajC R1.1)) (R := fun w' => Below W6.heap.size W6 w') rfl rfl (by kernel_rfl) (by rfl) (by go_simp) (HE2.out _) (fun w' hb => ⟨hS.1.below hb hS.1.lt, hS.2.1.below hb hS.2.1.lt, hS.2.2.1.below hb hS.2.2.1.lt, hS.2.2.2.trans (hb.mono hS.2.2.2.size)⟩) (fun W7 hb1 hS2 => ?_)
    simp only [Act.put, List.setIfInBounds_toArray, List.set_cons_zero, List.set_cons_succ]
    clear K1
    clear K3
    clear K4
    clear HB
    clear hS hb1
    have hS := hS2
    clear hS2
    have K1 := Lib.hid hS.1
    have K3 := Lib.hid hS.2.1
    have K4 := Lib.hid hS.2.2.1
    have HB := Lib.hid hS.2.2.2
    refine takeY (i := 11) (some 48) (v := .bool true) rfl rfl (by kernel_rfl) (by kernel_rfl) (by kernel_rfl) (fun _ _ _ h => h) (by rfl) (fun w' hS => by (exact eql_self _ _ _ _ _ _ rfl rfl guard_ajP _ HSA.out rfl rfl _)) hS ?_
    simp only [Act.put, List.setIfInBounds_toArray, List.set_cons_zero, List.set_cons_succ]
    refine takeY (i := 12) (some 49) (v := .bool true) rfl rfl (by kernel_rfl) (by kernel_rfl) (by kernel_rfl) (fun _ _ _ h => h) (by rfl) (fun w' hS => by go_simp) hS ?_
    simp only [Act.put, List.setIfInBounds_toArray, List.set_cons_zero, List.set_cons_succ]
    refine takeY (i := 13) (some 50) (v := .bool true) rfl rfl (by kernel_rfl) (by kernel_rfl) (by kernel_rfl) (fun _ _ _ h => h) (by rfl) (fun w' hS => by go_simp) hS ?_
    simp only [Act.put, List.setIfInBounds_toArray, List.set_cons_zero, List.set_cons_succ]
    refine takeL (i := 14) (some 51) 36 (.tmp 8) NK4 0 (ajC R1.1) _ rfl rfl (by kernel_rfl) (by kernel_rfl) (by kernel_rfl) (fun _ _ _ h => h) (by rfl) rfl rfl (fun w' hS => hS.2.2.1.all) Try.underlying36 rfl info_ajP hS ?_
    simp only [Act.put, List.setIfInBounds_toArray, List.set_cons_zero, List.set_cons_succ]
    refine takeY (i := 15) (some 52) (v := .int .i64 n) rfl rfl (by kernel_rfl) (by kernel_rfl) (by kernel_rfl) (fun _ _ _ h => h) (by rfl) (fun w' hS => by go_simp) hS ?_
    simp only [Act.put, List.setIfInBounds_toArray, List.set_cons_zero, List.set_cons_succ]
    refine takeY (i := 17) (some 54) (v := .agg (ajC ajD)) rfl rfl (by kernel_rfl) (by kernel_rfl) (by kernel_rfl) (fun _ _ _ h => h) (by rfl) (fun w' hS => by kernel_rfl) hS ?_
    simp only [Act.put, List.setIfInBounds_toArray, List.set_cons_zero, List.set_cons_succ]
    refine takeC (i := 16) (some 53) 19 #[.agg (ajC R1.1), .int .i64 n] (.agg (ajC ajD)) (R := fun w' => Below W7.heap.size W7 w') rfl rfl (by kernel_rfl) (by rfl) (by go_simp) (HE3.out _) (fun w' hb => ⟨hS.1.below hb hS.1.lt, hS.2.1.below hb hS.2.1.lt, hS.2.2.1.below hb hS.2.2.1.lt, hS.2.2.2.trans (hb.mono hS.2.2.2.size)⟩) (fun W8 hb1 hS2 => ?_)
    simp only [Act.put, List.setIfInBounds_toArray, List.set_cons_zero, List.set_cons_succ]
    clear K1
    clear K3
    clear K4
    clear HB
    clear hS hb1
    have hS := hS2
    clear hS2
    have K1 := Lib.hid hS.1
    have K3 := Lib.hid hS.2.1
    have K4 := Lib.hid hS.2.2.1
    have HB := Lib.hid hS.2.2.2
    refine takeY (i := 18) (some 55) (v := .bool true) rfl rfl (by kernel_rfl) (by kernel_rfl) (by kernel_rfl) (fun _ _ _ h => h) (by rfl) (fun w' hS => by (exact eql_self _ _ _ _ _ _ rfl rfl guard_ajP _ HSD.out rfl rfl _)) hS ?_
    simp only [Act.put, List.setIfInBounds_toArray, List.set_cons_zero, List.set_cons_succ]
    refine takeY (i := 19) (some 56) (v := .bool true) rfl rfl (by kernel_rfl) (by kernel_rfl) (by kernel_rfl) (fun _ _ _ h => h) (by rfl) (fun w' hS => by go_simp) hS ?_
    simp only [Act.put, List.setIfInBounds_toArray, List.set_cons_zero, List.set_cons_succ]
    refine takeY (i := 20) (some 57) (v := .bool true) rfl rfl (by kernel_rfl) (by kernel_rfl) (by kernel_rfl) (fun _ _ _ h => h) (by rfl) (fun w' hS => by go_simp) hS ?_
    simp only [Act.put, List.setIfInBounds_toArray, List.set_cons_zero, List.set_cons_succ]
    refine takeL (i := 21) (some 58) 36 (.tmp 8) NK4 0 (ajC R1.1) _ rfl rfl (by kernel_rfl) (by kernel_rfl) (by kernel_rfl) (fun _ _ _ h => h) (by rfl) rfl rfl (fun w' hS => hS.2.2.1.all) Try.underlying36 rfl info_ajP hS ?_
    simp only [Act.put, List.setIfInBounds_toArray, List.set_cons_zero, List.set_cons_succ]
    refine takeY (i := 22) (some 59) (v := .int .i64 n) rfl rfl (by kernel_rfl) (by kernel_rfl) (by kernel_rfl) (fun _ _ _ h => h) (by rfl) (fun w' hS => by go_simp) hS ?_
    simp only [Act.put, List.setIfInBounds_toArray, List.set_cons_zero, List.set_cons_succ]
    refine takeY (i := 23) (some 60) (v := .int .i64 (n + 1000)) rfl rfl (by kernel_rfl) (by kernel_rfl) (by kernel_rfl) (fun _ _ _ h => h) (by rfl) (fun w' hS => by (have hq := HW2.out; go_simp)) hS ?_
    simp only [Act.put, List.setIfInBounds_toArray, List.set_cons_zero, List.set_cons_succ]
    refine takeY (i := 25) (some 62) (v := .agg (ajC ajD)) rfl rfl (by kernel_rfl) (by kernel_rfl) (by kernel_rfl) (fun _ _ _ h => h) (by rfl) (fun w' hS => by kernel_rfl) hS ?_
    simp only [Act.put, List.setIfInBounds_toArray, List.set_cons_zero, List.set_cons_succ]
    refine takeC (i := 24) (some 61) 19 #[.agg (ajC R1.1), .int .i64 (n + 1000)] (.agg (ajC ajD)) (R := fun w' => Below W8.heap.size W8 w') rfl rfl (by kernel_rfl) (by rfl) (by go_simp) (HE4.out _) (fun w' hb => ⟨hS.1.below hb hS.1.lt, hS.2.1.below hb hS.2.1.lt, hS.2.2.1.below hb hS.2.2.1.lt, hS.2.2.2.trans (hb.mono hS.2.2.2.size)⟩) (fun W9 hb1 hS2 => ?_)
    simp only [Act.put, List.setIfInBounds_toArray, List.set_cons_zero, List.set_cons_succ]
    clear K1
    clear K3
    clear K4
    clear HB
    clear hS hb1
    have hS := hS2
    clear hS2
    have K1 := Lib.hid hS.1
    have K3 := Lib.hid hS.2.1
    have K4 := Lib.hid hS.2.2.1
    have HB := Lib.hid hS.2.2.2
    refine takeY (i := 26) (some 63) (v := .bool true) rfl rfl (by kernel_rfl) (by kernel_rfl) (by kernel_rfl) (fun _ _ _ h => h) (by rfl) (fun w' hS => by (exact eql_self _ _ _ _ _ _ rfl rfl guard_ajP _ HSD.out rfl rfl _)) hS ?_
    simp only [Act.put, List.setIfInBounds_toArray, List.set_cons_zero, List.set_cons_succ]
    refine takeY (i := 27) (some 64) (v := .bool true) rfl rfl (by kernel_rfl) (by kernel_rfl) (by kernel_rfl) (fun _ _ _ h => h) (by rfl) (fun w' hS => by go_simp) hS ?_
    simp only [Act.put, List.setIfInBounds_toArray, List.set_cons_zero, List.set_cons_succ]
    refine takeY (i := 28) (some 6) (v := .bool true) rfl rfl (by kernel_rfl) (by kernel_rfl) (by kernel_rfl) (fun _ _ _ h => h) (by rfl) (fun w' hS => by go_simp) hS ?_
    simp only [Act.put, List.setIfInBounds_toArray, List.set_cons_zero, List.set_cons_succ]
    clear hS
    refine wpAnyH_done (by kernel_rfl) ?_ _
    go_wp2_with fail
    go_ret
    exact ⟨rfl, HB.out⟩
  · have heb : (E != 0) = true := by simpa using he
    clear he HHF
    go_wp2_with fail
    go_ret
    exact ⟨rfl, HB.out⟩
end Go.Proofs.Ythmnbhmficdifaa
