/- Texts of this claim put together; each theorem states its conditions. -/
import Derived.Test.YtcngkfmjngeofaaGAdjMeet4
import Derived.Test.YtcngkfmjngeofaaRows
import Derived.Test.YtcngkfmjngeofaaGAdjMeet2
import Derived.OpenShut
import Derived.ProofKit
/- The walk of AdjMeet: for every input the law returns true, and nothing that was there is written. No condition. -/
namespace Go.Proofs.Ytcngkfmjngeofaa
open Go.RowKit
set_option linter.unusedVariables false

set_option maxHeartbeats 60000000 in
set_option maxRecDepth 100000 in
theorem walkAdjMeet (l0 : Lo) (L : Nat → Sl) (m0 : Lo) (M : Nat → Sl) (ka kb : Int) (pz : Nat → Int) (mo : Int) (w : World) (w0 : InLo w l0 L) (w1 : InLo w m0 M) (hka : (Lit.int .u8 ka).wf = true) (hkb : (Lit.int .u8 kb).wf = true) (hpz : byB pz) (hmo : (Lit.int .u8 mo).wf = true) :
    Calls Try.prog 5 #[.agg (loC l0), .agg (loC m0), .int .u8 ka, .int .u8 kb, .agg (syC pz), .int .u8 mo] w fun e w' => e = .returned (.bool true) ∧ Below w.heap.size w w' := by
  obtain ⟨⟨hyl, hnul, hil⟩, hrl, hnl, hml1, hml2⟩ := w0
  obtain ⟨⟨hym, hnum, him⟩, hrm, hnm, hmm1, hmm2⟩ := w1
  have HRL := Lib.hid hrl
  have HRM := Lib.hid hrm
  have HYl := Lib.hid hyl
  have HYm := Lib.hid hym
  have HNL := Lib.hid hnl
  have HNM := Lib.hid hnm
  have HCL := Lib.hid (And.intro hml1 hml2)
  have HCM := Lib.hid (And.intro hmm1 hmm2)
  have HPZ := Lib.hid hpz
  have HKA := Lib.hid (wf_u8 hka)
  have HKB := Lib.hid (wf_u8 hkb)
  have HMO := Lib.hid (wf_u8 hmo)
  clear hrl hrm hyl hym hnl hnm hml1 hml2 hmm1 hmm2 hpz hil him hnul hnum hka hkb hmo
  go_enter Try.func5, Try.ntmps5
  have HB := Lib.hid (Below.refl w.heap.size w)
  obtain ⟨N1, hN1⟩ : ∃ N, w.heap.size = N := ⟨_, rfl⟩
  have HN1 := Lib.hid hN1
  clear hN1
  go_wp2_with (refine wpList_box (op := ⟨some 6, _, _, _, _, _⟩) rfl 26 (.tmp 0) rfl (loC l0) rfl N1 HN1.out ?_; intro w1 k1 b1 s1; refine Hid.out ?_)
  refine Lib.hid ?_
  have K1 := Lib.hid k1
  clear k1
  have le_HB_N1 : w.heap.size ≤ N1 := by rw [← HN1.out]; exact HB.out.size
  have HBn := Lib.hid (HB.out.trans (b1.mono HB.out.size))
  clear HB
  have HB := HBn
  clear HBn
  clear b1 HN1
  obtain ⟨N2, hN2⟩ : ∃ N, w1.heap.size = N := ⟨_, rfl⟩
  have HN2 := Lib.hid hN2
  clear hN2
  go_wp2_with (refine wpList_box (op := ⟨some 7, _, _, _, _, _⟩) rfl 26 (.tmp 1) rfl (loC m0) rfl N2 HN2.out ?_; intro w2 k1 b1 s1; refine Hid.out ?_)
  refine Lib.hid ?_
  have K2 := Lib.hid k1
  clear k1
  have lt_N1_N2 : N1 < N2 := by rw [← HN2.out]; exact K1.out.lt
  have le_HB_N2 : w.heap.size ≤ N2 := by rw [← HN2.out]; exact HB.out.size
  have K1n := Lib.hid (K1.out.below b1 K1.out.lt)
  clear K1
  have K1 := K1n
  clear K1n
  have HBn := Lib.hid (HB.out.trans (b1.mono HB.out.size))
  clear HB
  have HB := HBn
  clear HBn
  clear b1 HN2
  obtain ⟨N3, hN3⟩ : ∃ N, w2.heap.size = N := ⟨_, rfl⟩
  have HN3 := Lib.hid hN3
  clear hN3
  go_wp2_with (refine wpList_box (op := ⟨some 10, _, _, _, _, _⟩) rfl 23 (.tmp 4) rfl (syC pz) rfl N3 HN3.out ?_; intro w3 k1 b1 s1; refine Hid.out ?_)
  refine Lib.hid ?_
  have K3 := Lib.hid k1
  clear k1
  have lt_N1_N3 : N1 < N3 := by rw [← HN3.out]; exact K1.out.lt
  have lt_N2_N3 : N2 < N3 := by rw [← HN3.out]; exact K2.out.lt
  have le_HB_N3 : w.heap.size ≤ N3 := by rw [← HN3.out]; exact HB.out.size
  have K1n := Lib.hid (K1.out.below b1 K1.out.lt)
  clear K1
  have K1 := K1n
  clear K1n
  have K2n := Lib.hid (K2.out.below b1 K2.out.lt)
  clear K2
  have K2 := K2n
  clear K2n
  have HBn := Lib.hid (HB.out.trans (b1.mono HB.out.size))
  clear HB
  have HB := HBn
  clear HBn
  clear b1 HN3
  go_wp2_with fail
  refine (awake_any _).mono ?_
  rintro e w4 ⟨rfl, b1⟩
  have K1n := Lib.hid (K1.out.below b1 K1.out.lt)
  clear K1
  have K1 := K1n
  clear K1n
  have K2n := Lib.hid (K2.out.below b1 K2.out.lt)
  clear K2
  have K2 := K2n
  clear K2n
  have K3n := Lib.hid (K3.out.below b1 K3.out.lt)
  clear K3
  have K3 := K3n
  clear K3n
  have HBn := Lib.hid (HB.out.trans (b1.mono HB.out.size))
  clear HB
  have HB := HBn
  clear HBn
  clear b1
  have hN12 : N1 < N2 := lt_N1_N2
  have hN13 : N1 < N3 := lt_N1_N3
  have hN23 : N2 < N3 := lt_N2_N3
  obtain ⟨x, hx, hx3⟩ := lev3 l0.lv
  obtain ⟨y, hy, hy3⟩ := lev3 m0.lv
  have HX : Hid (wrap64 (1 + wrap64 ((IntKind.u64.wrap l0.lv).tmod 3)) = x) := Lib.hid hx
  have HX3 := Lib.hid hx3
  have HY : Hid (wrap64 (1 + wrap64 ((IntKind.u64.wrap m0.lv).tmod 3)) = y) := Lib.hid hy
  have HY3 := Lib.hid hy3
  clear hx hy hx3 hy3
  go_wp2_with fail
  go_cut [] (fun wc => Hid (Blk 26 wc N1 (loC ⟨l0.s, l0.nu, x, l0.A, l0.m, l0.c⟩)) ∧ Hid (Blk 26 wc N2 (loC ⟨m0.s, m0.nu, y, m0.A, m0.m, m0.c⟩)) ∧ Hid (Blk 23 wc N3 (syC pz)) ∧ Hid (Below w.heap.size w wc))
  case first =>
    have c1 : w4.cell? ⟨N1, 7, none⟩ = some (.int .i64 l0.lv) := (K1.out.cell 7).trans rfl
    have c2 : w4.cell? ⟨N2, 7, none⟩ = some (.int .i64 m0.lv) := (K2.out.cell 7).trans rfl
    have f1 : ∀ o, w4.frozen? ⟨N1, o, none⟩ = false := fun o => by simp [World.frozen?, show w4.heap[N1]? = _ from K1.out]
    have f2 : ∀ o, w4.frozen? ⟨N2, o, none⟩ = false := fun o => by simp [World.frozen?, show w4.heap[N2]? = _ from K2.out]
    have hne : N1 ≠ N2 := by omega
    go_region
    go_wp2_with fail
    go_meet
    case rel =>
      rw [HX.out, HY.out]
      obtain ⟨q1, q2, q3, q4⟩ := set_two K1.out K2.out K3.out hN12 hN23 HB.out le_HB_N1 7 (.int .i64 x) (.int .i64 y) (C' := loC ⟨l0.s, l0.nu, x, l0.A, l0.m, l0.c⟩) (D' := loC ⟨m0.s, m0.nu, y, m0.A, m0.m, m0.c⟩) rfl rfl
      exact ⟨Lib.hid q1, Lib.hid q2, Lib.hid q3, Lib.hid q4⟩
  case rest =>
  as_aux_lemma =>
  clear K1 K2 K3 HB
  obtain ⟨K1, K2, K3, HB⟩ := hcut
  obtain ⟨k1, hk1, hk13, hk1m, hk1c⟩ := min3 l0.m l0.c HCL.out.1
  obtain ⟨k2, hk2, hk23, hk2m, hk2c⟩ := min3 m0.m m0.c HCM.out.1
  have HKM := Lib.hid (And.intro hk1m hk2m)
  clear hk1m hk2m
  have H3l := Lib.hid hk13
  have H3m := Lib.hid hk23
  clear hk13 hk23
  go_wp2_with fail
  go_cut [] (fun wc => Hid (Blk 26 wc N1 (loC ⟨l0.s, l0.nu, x, l0.A, k1, l0.c⟩)) ∧ Hid (Blk 26 wc N2 (loC ⟨m0.s, m0.nu, y, m0.A, k2, m0.c⟩)) ∧ Hid (Blk 23 wc N3 (syC pz)) ∧ Hid (Below w.heap.size w wc))
  case first =>
    have c1 : wc.cell? ⟨N1, 8, none⟩ = some (.slice l0.A l0.m l0.c) := (K1.out.cell 8).trans rfl
    have c2 : wc.cell? ⟨N2, 8, none⟩ = some (.slice m0.A m0.m m0.c) := (K2.out.cell 8).trans rfl
    have f1 : ∀ o, wc.frozen? ⟨N1, o, none⟩ = false := fun o => by simp [World.frozen?, show wc.heap[N1]? = _ from K1.out]
    have f2 : ∀ o, wc.frozen? ⟨N2, o, none⟩ = false := fun o => by simp [World.frozen?, show wc.heap[N2]? = _ from K2.out]
    have hne : N1 ≠ N2 := by omega
    go_region
    go_wp2_with fail
    go_meet
    case rel =>
      obtain ⟨q1, q2, q3, q4⟩ := set_two K1.out K2.out K3.out hN12 hN23 HB.out le_HB_N1 8 (.slice l0.A k1 l0.c) (.slice m0.A k2 m0.c) (C' := loC ⟨l0.s, l0.nu, x, l0.A, k1, l0.c⟩) (D' := loC ⟨m0.s, m0.nu, y, m0.A, k2, m0.c⟩) rfl rfl
      exact ⟨Lib.hid q1, Lib.hid q2, Lib.hid q3, Lib.hid q4⟩
  case rest =>
  as_aux_lemma =>
  clear K1 K2 K3 HB
  obtain ⟨K1, K2, K3, HB⟩ := hcut
  obtain ⟨l, hl⟩ : ∃ l : Lo, (⟨l0.s, l0.nu, x, l0.A, k1, l0.c⟩ : Lo) = l := ⟨_, rfl⟩
  obtain ⟨m, hm⟩ : ∃ m : Lo, (⟨m0.s, m0.nu, y, m0.A, k2, m0.c⟩ : Lo) = m := ⟨_, rfl⟩
  rw [hl] at K1
  rw [hm] at K2
  have HRl : Hid (RdS w l.A l.m L) := Lib.hid (by rw [← hl]; exact HRL.out.less HKM.out.1)
  have HRm : Hid (RdS w m.A m.m M) := Lib.hid (by rw [← hm]; exact HRM.out.less HKM.out.2)
  have HYln : Hid (byB l.s) := Lib.hid (by rw [← hl]; exact HYl.out)
  have HYmn : Hid (byB m.s) := Lib.hid (by rw [← hm]; exact HYm.out)
  have HVl : Hid (l.lv = 1 ∨ l.lv = 2 ∨ l.lv = 3) := Lib.hid (by rw [← hl]; exact HX3.out)
  have HVm : Hid (m.lv = 1 ∨ m.lv = 2 ∨ m.lv = 3) := Lib.hid (by rw [← hm]; exact HY3.out)
  have H3ln : Hid (l.m ≤ 3) := Lib.hid (by rw [← hl]; exact H3l.out)
  have H3mn : Hid (m.m ≤ 3) := Lib.hid (by rw [← hm]; exact H3m.out)
  have HCl : Hid (l.m ≤ l.c ∧ l.m * 24 ≤ 140737488351232) := Lib.hid (by have := HCL.out; rw [← hl]; exact ⟨hk1c, by show k1 * 24 ≤ _; have := HKM.out.1; omega⟩)
  have HCm : Hid (m.m ≤ m.c ∧ m.m * 24 ≤ 140737488351232) := Lib.hid (by have := HCM.out; rw [← hm]; exact ⟨hk2c, by show k2 * 24 ≤ _; have := HKM.out.2; omega⟩)
  clear HRL HRM HYl HYm HNL HNM HCL HCM HX HX3 HY HY3 H3l H3m HKM hk1 hk2 hk1c hk2c hl hm
  have HYl := HYln
  have HYm := HYmn
  have H3l := H3ln
  have H3m := H3mn
  clear HYln HYmn H3ln H3mn
  obtain ⟨r, hr⟩ : ∃ r, eqY l.s m.s = r := ⟨_, rfl⟩
  have HQS := Lib.hid hr
  clear hr
  go_wp2_with (refine wpList_ld (op := ⟨some 52, _, _, _, _, _⟩) (by rfl) 23 (.tmp 51) rfl N1 0 rfl (syC l.s) _ K1.out.los Try.underlying23 rfl info_sys ?_; refine Hid.out ?_)
  refine Lib.hid ?_
  go_wp2_with (refine wpList_ld (op := ⟨some 54, _, _, _, _, _⟩) (by rfl) 23 (.tmp 53) rfl N2 0 rfl (syC m.s) _ K2.out.los Try.underlying23 rfl info_sys ?_; refine Hid.out ?_)
  refine Lib.hid ?_
  go_wp2_with (refine wpList_gv (op := ⟨some 55, _, _, _, _, _⟩) _ (by rfl) (sys_eql _ _ _ _ _ rfl rfl _ _ HYl.out HYm.out rfl rfl _ HQS.out _) ?_; refine Hid.out ?_)
  refine Lib.hid ?_
  cases r with
  | true =>
    go_wp2_with fail
    go_ret
    exact ⟨rfl, HB.out⟩
  | false =>
    go_wp2_with fail
    go_cut [13, 14] (fun s1 s2 wc => ∃ P Q, s1 = .pointer (some ⟨P, 0, none⟩) ∧ s2 = .pointer (some ⟨Q, 0, none⟩) ∧ P ≠ Q ∧ N3 < P ∧ N3 < Q ∧ w.heap.size ≤ P ∧ w.heap.size ≤ Q ∧ Hid (Blk 56 wc P (sdC l ajD)) ∧ Hid (Blk 56 wc Q (sdC m ajD)) ∧ Hid (Blk 26 wc N1 (loC l)) ∧ Hid (Blk 26 wc N2 (loC m)) ∧ Hid (Blk 23 wc N3 (syC pz)) ∧ Hid (Below w.heap.size w wc))
    case first =>
      refine wp_region_held_drew (S := fun w' => Blk 26 w' N1 (loC l) ∧ Blk 26 w' N2 (loC m) ∧ Blk 23 w' N3 (syC pz) ∧ Below w.heap.size w w') (by kernel_rfl) ⟨K1.out, K2.out, K3.out, HB.out.drew⟩ (fun hS => ?_)
      generalize hW5 : wc.drew = W5 at hS ⊢
      clear hW5
      clear K1
      clear K2
      clear K3
      clear HB
      have K1 := Lib.hid hS.1
      have K2 := Lib.hid hS.2.1
      have K3 := Lib.hid hS.2.2.1
      have HB := Lib.hid hS.2.2.2
      refine takeL (i := 0) (some 56) 26 (.tmp 6) N1 0 (loC l) _ rfl rfl (by kernel_rfl) (by kernel_rfl) (by kernel_rfl) (fun _ _ _ h => h) (by rfl) rfl rfl (fun w' hS => hS.1.all) Try.underlying26 rfl info_loR hS ?_
      simp only [Act.put, List.setIfInBounds_toArray, List.set_cons_zero, List.set_cons_succ]
      refine takeY (i := 1) (some 57) (v := .agg (ajC ajD)) rfl rfl (by kernel_rfl) (by kernel_rfl) (by kernel_rfl) (fun _ _ _ h => h) (by rfl) (fun w' hS => by kernel_rfl) hS ?_
      simp only [Act.put, List.setIfInBounds_toArray, List.set_cons_zero, List.set_cons_succ]
      refine takeY (i := 2) (some 58) (v := .agg (sdC l ajD)) rfl rfl (by kernel_rfl) (by kernel_rfl) (by kernel_rfl) (fun _ _ _ h => h) (by rfl) (fun w' hS => by exact build_sd _ _ _ _ rfl l ajD rfl rfl _) hS ?_
      simp only [Act.put, List.setIfInBounds_toArray, List.set_cons_zero, List.set_cons_succ]
      refine takeL (i := 4) (some 60) 26 (.tmp 7) N2 0 (loC m) _ rfl rfl (by kernel_rfl) (by kernel_rfl) (by kernel_rfl) (fun _ _ _ h => h) (by rfl) rfl rfl (fun w' hS => hS.2.1.all) Try.underlying26 rfl info_loR hS ?_
      simp only [Act.put, List.setIfInBounds_toArray, List.set_cons_zero, List.set_cons_succ]
      refine takeY (i := 5) (some 61) (v := .agg (ajC ajD)) rfl rfl (by kernel_rfl) (by kernel_rfl) (by kernel_rfl) (fun _ _ _ h => h) (by rfl) (fun w' hS => by kernel_rfl) hS ?_
      simp only [Act.put, List.setIfInBounds_toArray, List.set_cons_zero, List.set_cons_succ]
      refine takeY (i := 6) (some 62) (v := .agg (sdC m ajD)) rfl rfl (by kernel_rfl) (by kernel_rfl) (by kernel_rfl) (fun _ _ _ h => h) (by rfl) (fun w' hS => by exact build_sd _ _ _ _ rfl m ajD rfl rfl _) hS ?_
      simp only [Act.put, List.setIfInBounds_toArray, List.set_cons_zero, List.set_cons_succ]
      obtain ⟨M0, hM0⟩ : ∃ N, W5.heap.size = N := ⟨_, rfl⟩
      have HM0 := Lib.hid hM0
      clear hM0
      refine wpAnyH_ready (show Region.ready _ _ _ = [3, 7] from by kernel_rfl) (by simp) (consBx (i := 3) (some 59) 56 (.tmp 58) (sdC l ajD) rfl rfl (by rfl) rfl rfl M0 HM0.out ?_ (consBx (i := 7) (some 63) 56 (.tmp 62) (sdC m ajD) rfl rfl (by rfl) rfl rfl M0 HM0.out ?_ AllReadyH.nil))
      · skip
        intro W6 k1 b1 s1
        refine ⟨⟨hS.1.below b1 hS.1.lt, hS.2.1.below b1 hS.2.1.lt, hS.2.2.1.below b1 hS.2.2.1.lt, hS.2.2.2.trans (b1.mono hS.2.2.2.size)⟩, ?_⟩
        simp only [Act.put, List.setIfInBounds_toArray, List.set_cons_zero, List.set_cons_succ]
        have KP := Lib.hid k1
        clear k1
        have lt_N1_M0 : N1 < M0 := by rw [← HM0.out]; exact K1.out.lt
        have lt_N2_M0 : N2 < M0 := by rw [← HM0.out]; exact K2.out.lt
        have lt_N3_M0 : N3 < M0 := by rw [← HM0.out]; exact K3.out.lt
        have le_HB_M0 : w.heap.size ≤ M0 := by rw [← HM0.out]; exact HB.out.size
        have K1n := Lib.hid (K1.out.below b1 K1.out.lt)
        clear K1
        have K1 := K1n
        clear K1n
        have K2n := Lib.hid (K2.out.below b1 K2.out.lt)
        clear K2
        have K2 := K2n
        clear K2n
        have K3n := Lib.hid (K3.out.below b1 K3.out.lt)
        clear K3
        have K3 := K3n
        clear K3n
        have HBn := Lib.hid (HB.out.trans (b1.mono HB.out.size))
        clear HB
        have HB := HBn
        clear HBn
        clear b1 HM0 hS
        have hS := (And.intro K1.out (And.intro K2.out (And.intro K3.out HB.out)))
        refine takeY (i := 8) (some 13) (v := .pointer (some ⟨M0, 0, none⟩)) rfl rfl (by kernel_rfl) (by kernel_rfl) (by kernel_rfl) (fun _ _ _ h => h) (by rfl) (fun w' hS => by go_simp) hS ?_
        simp only [Act.put, List.setIfInBounds_toArray, List.set_cons_zero, List.set_cons_succ]
        obtain ⟨M0_3, hM0_3⟩ : ∃ N, W6.heap.size = N := ⟨_, rfl⟩
        have HM0_3 := Lib.hid hM0_3
        clear hM0_3
        refine takeBx (i := 7) (some 63) 56 (.tmp 62) (sdC m ajD) rfl rfl (by kernel_rfl) (by rfl) rfl rfl M0_3 HM0_3.out ?_
        · skip
          intro W7 k1 b1 s1
          refine ⟨⟨hS.1.below b1 hS.1.lt, hS.2.1.below b1 hS.2.1.lt, hS.2.2.1.below b1 hS.2.2.1.lt, hS.2.2.2.trans (b1.mono hS.2.2.2.size)⟩, ?_⟩
          simp only [Act.put, List.setIfInBounds_toArray, List.set_cons_zero, List.set_cons_succ]
          have KQ := Lib.hid k1
          clear k1
          have lt_N1_M0_3 : N1 < M0_3 := by rw [← HM0_3.out]; exact K1.out.lt
          have lt_N2_M0_3 : N2 < M0_3 := by rw [← HM0_3.out]; exact K2.out.lt
          have lt_N3_M0_3 : N3 < M0_3 := by rw [← HM0_3.out]; exact K3.out.lt
          have lt_M0_M0_3 : M0 < M0_3 := by rw [← HM0_3.out]; exact KP.out.lt
          have le_HB_M0_3 : w.heap.size ≤ M0_3 := by rw [← HM0_3.out]; exact HB.out.size
          have KPn := Lib.hid (KP.out.below b1 KP.out.lt)
          clear KP
          have KP := KPn
          clear KPn
          have K1n := Lib.hid (K1.out.below b1 K1.out.lt)
          clear K1
          have K1 := K1n
          clear K1n
          have K2n := Lib.hid (K2.out.below b1 K2.out.lt)
          clear K2
          have K2 := K2n
          clear K2n
          have K3n := Lib.hid (K3.out.below b1 K3.out.lt)
          clear K3
          have K3 := K3n
          clear K3n
          have HBn := Lib.hid (HB.out.trans (b1.mono HB.out.size))
          clear HB
          have HB := HBn
          clear HBn
          clear b1 HM0_3 hS
          have hS := (And.intro K1.out (And.intro K2.out (And.intro K3.out HB.out)))
          refine takeY (i := 9) (some 14) (v := .pointer (some ⟨M0_3, 0, none⟩)) rfl rfl (by kernel_rfl) (by kernel_rfl) (by kernel_rfl) (fun _ _ _ h => h) (by rfl) (fun w' hS => by go_simp) hS ?_
          simp only [Act.put, List.setIfInBounds_toArray, List.set_cons_zero, List.set_cons_succ]
          clear hS
          refine wpAnyH_done (by kernel_rfl) ?_ _
          go_wp2_with fail
          go_meet
          case rel => exact ⟨M0, M0_3, rfl, rfl, by omega, by omega, by omega, by omega, by omega, KP, KQ, K1, K2, K3, HB⟩
      · skip
        intro W6 k1 b1 s1
        refine ⟨⟨hS.1.below b1 hS.1.lt, hS.2.1.below b1 hS.2.1.lt, hS.2.2.1.below b1 hS.2.2.1.lt, hS.2.2.2.trans (b1.mono hS.2.2.2.size)⟩, ?_⟩
        simp only [Act.put, List.setIfInBounds_toArray, List.set_cons_zero, List.set_cons_succ]
        have KQ := Lib.hid k1
        clear k1
        have lt_N1_M0 : N1 < M0 := by rw [← HM0.out]; exact K1.out.lt
        have lt_N2_M0 : N2 < M0 := by rw [← HM0.out]; exact K2.out.lt
        have lt_N3_M0 : N3 < M0 := by rw [← HM0.out]; exact K3.out.lt
        have le_HB_M0 : w.heap.size ≤ M0 := by rw [← HM0.out]; exact HB.out.size
        have K1n := Lib.hid (K1.out.below b1 K1.out.lt)
        clear K1
        have K1 := K1n
        clear K1n
        have K2n := Lib.hid (K2.out.below b1 K2.out.lt)
        clear K2
        have K2 := K2n
        clear K2n
        have K3n := Lib.hid (K3.out.below b1 K3.out.lt)
        clear K3
        have K3 := K3n
        clear K3n
        have HBn := Lib.hid (HB.out.trans (b1.mono HB.out.size))
        clear HB
        have HB := HBn
        clear HBn
        clear b1 HM0 hS
        have hS := (And.intro K1.out (And.intro K2.out (And.intro K3.out HB.out)))
        obtain ⟨M0_7, hM0_7⟩ : ∃ N, W6.heap.size = N := ⟨_, rfl⟩
        have HM0_7 := Lib.hid hM0_7
        clear hM0_7
        refine takeBx (i := 3) (some 59) 56 (.tmp 58) (sdC l ajD) rfl rfl (by kernel_rfl) (by rfl) rfl rfl M0_7 HM0_7.out ?_
        · skip
          intro W7 k1 b1 s1
          refine ⟨⟨hS.1.below b1 hS.1.lt, hS.2.1.below b1 hS.2.1.lt, hS.2.2.1.below b1 hS.2.2.1.lt, hS.2.2.2.trans (b1.mono hS.2.2.2.size)⟩, ?_⟩
          simp only [Act.put, List.setIfInBounds_toArray, List.set_cons_zero, List.set_cons_succ]
          have KP := Lib.hid k1
          clear k1
          have lt_N1_M0_7 : N1 < M0_7 := by rw [← HM0_7.out]; exact K1.out.lt
          have lt_N2_M0_7 : N2 < M0_7 := by rw [← HM0_7.out]; exact K2.out.lt
          have lt_N3_M0_7 : N3 < M0_7 := by rw [← HM0_7.out]; exact K3.out.lt
          have lt_M0_M0_7 : M0 < M0_7 := by rw [← HM0_7.out]; exact KQ.out.lt
          have le_HB_M0_7 : w.heap.size ≤ M0_7 := by rw [← HM0_7.out]; exact HB.out.size
          have KQn := Lib.hid (KQ.out.below b1 KQ.out.lt)
          clear KQ
          have KQ := KQn
          clear KQn
          have K1n := Lib.hid (K1.out.below b1 K1.out.lt)
          clear K1
          have K1 := K1n
          clear K1n
          have K2n := Lib.hid (K2.out.below b1 K2.out.lt)
          clear K2
          have K2 := K2n
          clear K2n
          have K3n := Lib.hid (K3.out.below b1 K3.out.lt)
          clear K3
          have K3 := K3n
          clear K3n
          have HBn := Lib.hid (HB.out.trans (b1.mono HB.out.size))
          clear HB
          have HB := HBn
          clear HBn
          clear b1 HM0_7 hS
          have hS := (And.intro K1.out (And.intro K2.out (And.intro K3.out HB.out)))
          refine takeY (i := 8) (some 13) (v := .pointer (some ⟨M0_7, 0, none⟩)) rfl rfl (by kernel_rfl) (by kernel_rfl) (by kernel_rfl) (fun _ _ _ h => h) (by rfl) (fun w' hS => by go_simp) hS ?_
          simp only [Act.put, List.setIfInBounds_toArray, List.set_cons_zero, List.set_cons_succ]
          refine takeY (i := 9) (some 14) (v := .pointer (some ⟨M0, 0, none⟩)) rfl rfl (by kernel_rfl) (by kernel_rfl) (by kernel_rfl) (fun _ _ _ h => h) (by rfl) (fun w' hS => by go_simp) hS ?_
          simp only [Act.put, List.setIfInBounds_toArray, List.set_cons_zero, List.set_cons_succ]
          clear hS
          refine wpAnyH_done (by kernel_rfl) ?_ _
          go_wp2_with fail
          go_meet
          case rel => exact ⟨M0_7, M0, rfl, rfl, by omega, by omega, by omega, by omega, by omega, KP, KQ, K1, K2, K3, HB⟩
    case rest =>
    as_aux_lemma =>
    clear K1 K2 K3 HB
    obtain ⟨P, Q, rfl, rfl, hPQ, hP3, hQ3, hP0, hQ0, KP, KQ, K1, K2, K3, HB⟩ := hcut
    go_upto_if 66 with (fail)
    go_cut [] (fun wc => ∃ a, Hid (StA m a) ∧ Hid (Blk 56 wc P (sdC l a)) ∧ Hid (Blk 56 wc Q (sdC m ajD)) ∧ Hid (Blk 26 wc N1 (loC l)) ∧ Hid (Blk 26 wc N2 (loC m)) ∧ Hid (Blk 23 wc N3 (syC pz)) ∧ Hid (Below w.heap.size w wc))
    case first =>
      by_cases hA : ka.tmod 3 < 2
      · skip
        go_wp2_with (refine wpList_ld (op := ⟨some 72, _, _, _, _, _⟩) (by rfl) 23 (.tmp 71) rfl N2 0 rfl (syC m.s) _ K2.out.los Try.underlying23 rfl info_sys ?_; refine Hid.out ?_)
        refine Lib.hid ?_
        have c1 : wc.cell? ⟨N2, 6, none⟩ = some (.int .u8 m.nu) := (K2.out.cell 6).trans rfl
        obtain ⟨qa, hqa⟩ : ∃ q, IntKind.u8.wrap (ka.tdiv 3) = q := ⟨_, rfl⟩
        have HQA := Lib.hid hqa
        clear hqa
        go_wp2_with (refine wpList_v (op := ⟨some 76, _, _, _, _, _⟩) rfl _ (run_quo3 _ _ _ _ rfl _ qa rfl rfl HQA.out _) ?_; refine Hid.out ?_)
        refine Lib.hid ?_
        go_wp2_with (refine wpList_v (op := ⟨some 78, _, _, _, _, _⟩) rfl _ (run_rem3 _ _ _ _ rfl _ _ rfl rfl rfl _) ?_; refine Hid.out ?_)
        refine Lib.hid ?_
        go_wp2_with (refine wpList_v (op := ⟨some 80, _, _, _, _, _⟩) rfl _ (build_ajx _ _ _ _ _ _ _ rfl ⟨_, m.s, m.nu, _, 5⟩ rfl rfl rfl rfl rfl _) ?_; refine Hid.out ?_)
        refine Lib.hid ?_
        clear c1
        go_wp2_with (refine wpList_st rfl 36 (.tmp 82) (.tmp 80) rfl P 9 rfl (_) (_) rfl rfl info_ajP (ajC_one _) KP.out (Nat.le_of_ble_eq_true rfl) (C' := sdC l ⟨_, m.s, m.nu, _, 5⟩) (sd_put _ _ _) ?_; intro w5 q1; refine Hid.out ?_)
        refine Lib.hid ?_
        have K1n := Lib.hid (K1.out.far q1 (by omega))
        clear K1
        have K1 := K1n
        clear K1n
        have K2n := Lib.hid (K2.out.far q1 (by omega))
        clear K2
        have K2 := K2n
        clear K2n
        have K3n := Lib.hid (K3.out.far q1 (by omega))
        clear K3
        have K3 := K3n
        clear K3n
        have KQn := Lib.hid (KQ.out.far q1 (by omega))
        clear KQ
        have KQ := KQn
        clear KQn
        have HBn := Lib.hid (HB.out.trans (q1.2.1 _ (by omega)))
        clear HB
        have HB := HBn
        clear HBn
        have KPn : Hid (Blk 56 w5 P (sdC l ⟨_, m.s, m.nu, _, 5⟩)) := Lib.hid q1.1
        clear KP
        have KP := KPn
        clear KPn q1
        go_wp2_with fail
        go_meet
        case rel => exact ⟨_, Lib.hid ⟨stW HKA.out, .inr ⟨rfl, rfl⟩, HYm.out⟩, KP, KQ, K1, K2, K3, HB⟩
      · go_wp2_with fail
        go_meet
        case rel => exact ⟨ajD, Lib.hid (stA_D m), KP, KQ, K1, K2, K3, HB⟩
    case rest =>
    as_aux_lemma =>
    clear K1 K2 K3 KP KQ HB
    obtain ⟨a, HSA, KP, KQ, K1, K2, K3, HB⟩ := hcut
    go_upto_if 85 with (fail)
    go_cut [] (fun wc => ∃ b, Hid (StB b) ∧ Hid (Blk 56 wc P (sdC l a)) ∧ Hid (Blk 56 wc Q (sdC m b)) ∧ Hid (Blk 26 wc N1 (loC l)) ∧ Hid (Blk 26 wc N2 (loC m)) ∧ Hid (Blk 23 wc N3 (syC pz)) ∧ Hid (Below w.heap.size w wc))
    case first =>
      by_cases hA : kb.tmod 3 < 2
      · skip
        go_wp2_with (refine wpList_ld (op := ⟨some 90, _, _, _, _, _⟩) (by rfl) 23 (.tmp 10) rfl N3 0 rfl (syC pz) _ K3.out.all Try.underlying23 rfl info_sys ?_; refine Hid.out ?_)
        refine Lib.hid ?_
        have c1 : wc.cell? ⟨N1, 6, none⟩ = some (.int .u8 l.nu) := (K1.out.cell 6).trans rfl
        obtain ⟨qa, hqa⟩ : ∃ q, IntKind.u8.wrap (kb.tdiv 3) = q := ⟨_, rfl⟩
        have HQA := Lib.hid hqa
        clear hqa
        go_wp2_with (refine wpList_v (op := ⟨some 94, _, _, _, _, _⟩) rfl _ (run_quo3 _ _ _ _ rfl _ qa rfl rfl HQA.out _) ?_; refine Hid.out ?_)
        refine Lib.hid ?_
        go_wp2_with (refine wpList_v (op := ⟨some 96, _, _, _, _, _⟩) rfl _ (run_rem3 _ _ _ _ rfl _ _ rfl rfl rfl _) ?_; refine Hid.out ?_)
        refine Lib.hid ?_
        go_wp2_with (refine wpList_v (op := ⟨some 98, _, _, _, _, _⟩) rfl _ (build_ajx _ _ _ _ _ _ _ rfl ⟨_, pz, l.nu, _, 5⟩ rfl rfl rfl rfl rfl _) ?_; refine Hid.out ?_)
        refine Lib.hid ?_
        clear c1
        go_wp2_with (refine wpList_st rfl 36 (.tmp 100) (.tmp 98) rfl Q 9 rfl (_) (_) rfl rfl info_ajP (ajC_one _) KQ.out (Nat.le_of_ble_eq_true rfl) (C' := sdC m ⟨_, pz, l.nu, _, 5⟩) (sd_put _ _ _) ?_; intro w5 q1; refine Hid.out ?_)
        refine Lib.hid ?_
        have K1n := Lib.hid (K1.out.far q1 (by omega))
        clear K1
        have K1 := K1n
        clear K1n
        have K2n := Lib.hid (K2.out.far q1 (by omega))
        clear K2
        have K2 := K2n
        clear K2n
        have K3n := Lib.hid (K3.out.far q1 (by omega))
        clear K3
        have K3 := K3n
        clear K3n
        have KPn := Lib.hid (KP.out.far q1 (by omega))
        clear KP
        have KP := KPn
        clear KPn
        have HBn := Lib.hid (HB.out.trans (q1.2.1 _ (by omega)))
        clear HB
        have HB := HBn
        clear HBn
        have KQn : Hid (Blk 56 w5 Q (sdC m ⟨_, pz, l.nu, _, 5⟩)) := Lib.hid q1.1
        clear KQ
        have KQ := KQn
        clear KQn q1
        go_wp2_with fail
        go_meet
        case rel => exact ⟨_, Lib.hid ⟨stW HKB.out, HPZ.out⟩, KP, KQ, K1, K2, K3, HB⟩
      · go_wp2_with fail
        go_meet
        case rel => exact ⟨ajD, Lib.hid stB_D, KP, KQ, K1, K2, K3, HB⟩
    case rest =>
    as_aux_lemma =>
    clear K1 K2 K3 KP KQ HB
    obtain ⟨b, HSB, KP, KQ, K1, K2, K3, HB⟩ := hcut
    obtain ⟨hd, hhd⟩ : ∃ hd, heM m = hd := ⟨_, rfl⟩
    obtain ⟨s, hs⟩ : ∃ s, shB L l.m M m.m = s := ⟨_, rfl⟩
    obtain ⟨R, hR⟩ : ∃ R, stepR l ajD hd 0 s = R := ⟨_, rfl⟩
    have HR0 : Hid (stepR l ajD hd 0 (shB L l.m M hd.m) = R) := Lib.hid (by rw [show shB L l.m M hd.m = s from by rw [← hhd]; exact hs]; exact hR)
    have HF := Lib.hid (first_step (R := R) HVl.out HVm.out H3l.out H3m.out HQS.out (by rw [hhd]; exact hR))
    have HRh : Hid (RdS w hd.A hd.m M) := Lib.hid (by rw [← hhd]; exact HRm.out)
    have HCh : Hid (hd.m ≤ hd.c ∧ hd.m * 24 ≤ 140737488351232) := Lib.hid (by rw [← hhd]; exact HCm.out)
    have HYh : Hid (byB hd.s ∧ byB hd.th ∧ hd.m ≤ 3) := Lib.hid (by rw [← hhd]; exact ⟨HYm.out, by_z0, H3m.out⟩)
    have HHD := Lib.hid hhd
    clear hhd
    have HS := Lib.hid hs
    clear hs hR
    go_wp2_with fail
    go_cut [16] (fun s1 wc => s1 = .int .i64 R.2 ∧ Hid (Blk 26 wc N1 (loC l)) ∧ Hid (Blk 26 wc N2 (loC m)) ∧ Hid (Blk 56 wc P (sdC l a)) ∧ Hid (Blk 56 wc Q (sdC m b)) ∧ Hid (Below w.heap.size w wc))
    case first =>
      refine wp_region_held_drew (S := fun w' => Blk 26 w' N1 (loC l) ∧ Blk 26 w' N2 (loC m) ∧ Blk 56 w' P (sdC l a) ∧ Blk 56 w' Q (sdC m b) ∧ Below w.heap.size w w') (by kernel_rfl) ⟨K1.out, K2.out, KP.out, KQ.out, HB.out.drew⟩ (fun hS => ?_)
      generalize hW5 : wc.drew = W5 at hS ⊢
      clear hW5
      clear K1
      clear K2
      clear KP
      clear KQ
      clear HB
      have K1 := Lib.hid hS.1
      have K2 := Lib.hid hS.2.1
      have KP := Lib.hid hS.2.2.1
      have KQ := Lib.hid hS.2.2.2.1
      have HB := Lib.hid hS.2.2.2.2
      refine takeL (i := 0) (some 102) 26 (.tmp 6) N1 0 (loC l) _ rfl rfl (by kernel_rfl) (by kernel_rfl) (by kernel_rfl) (fun _ _ _ h => h) (by rfl) rfl rfl (fun w' hS => hS.1.all) Try.underlying26 rfl info_loR hS ?_
      simp only [Act.put, List.setIfInBounds_toArray, List.set_cons_zero, List.set_cons_succ]
      refine takeY (i := 2) (some 104) (v := .agg (ajC ajD)) rfl rfl (by kernel_rfl) (by kernel_rfl) (by kernel_rfl) (fun _ _ _ h => h) (by rfl) (fun w' hS => by kernel_rfl) hS ?_
      simp only [Act.put, List.setIfInBounds_toArray, List.set_cons_zero, List.set_cons_succ]
      refine takeY (i := 3) (some 105) (v := .pointer (some ⟨N2, 0, none⟩)) rfl rfl (by kernel_rfl) (by kernel_rfl) (by kernel_rfl) (fun _ _ _ h => h) (by rfl) (fun w' hS => by go_simp) hS ?_
      simp only [Act.put, List.setIfInBounds_toArray, List.set_cons_zero, List.set_cons_succ]
      refine takeL (i := 4) (some 106) 23 (.tmp 105) N2 0 (syC m.s) _ rfl rfl (by kernel_rfl) (by kernel_rfl) (by kernel_rfl) (fun _ _ _ h => h) (by rfl) rfl rfl (fun w' hS => hS.2.1.los) Try.underlying23 rfl info_sys hS ?_
      simp only [Act.put, List.setIfInBounds_toArray, List.set_cons_zero, List.set_cons_succ]
      refine takeY (i := 5) (some 107) (v := .pointer (some ⟨N2, 7, none⟩)) rfl rfl (by kernel_rfl) (by kernel_rfl) (by kernel_rfl) (fun _ _ _ h => h) (by rfl) (fun w' hS => by go_simp) hS ?_
      simp only [Act.put, List.setIfInBounds_toArray, List.set_cons_zero, List.set_cons_succ]
      refine takeY (i := 6) (some 108) (v := .int .i64 m.lv) rfl rfl (by kernel_rfl) (by kernel_rfl) (by kernel_rfl) (fun _ _ _ h => h) (by rfl) (fun w' hS => by (have c9 : w'.cell? ⟨N2, 7, none⟩ = some (.int .i64 m.lv) := (hS.2.1.cell 7).trans rfl; clear hS; go_simp)) hS ?_
      simp only [Act.put, List.setIfInBounds_toArray, List.set_cons_zero, List.set_cons_succ]
      refine takeY (i := 7) (some 109) (v := .pointer (some ⟨N2, 8, none⟩)) rfl rfl (by kernel_rfl) (by kernel_rfl) (by kernel_rfl) (fun _ _ _ h => h) (by rfl) (fun w' hS => by go_simp) hS ?_
      simp only [Act.put, List.setIfInBounds_toArray, List.set_cons_zero, List.set_cons_succ]
      refine takeY (i := 8) (some 110) (v := .slice m.A m.m m.c) rfl rfl (by kernel_rfl) (by kernel_rfl) (by kernel_rfl) (fun _ _ _ h => h) (by rfl) (fun w' hS => by (have c9 : w'.cell? ⟨N2, 8, none⟩ = some (.slice m.A m.m m.c) := (hS.2.1.cell 8).trans rfl; clear hS; go_simp)) hS ?_
      simp only [Act.put, List.setIfInBounds_toArray, List.set_cons_zero, List.set_cons_succ]
      refine takeY (i := 9) (some 111) (v := .agg (heC hd)) rfl rfl (by kernel_rfl) (by kernel_rfl) (by kernel_rfl) (fun _ _ _ h => h) (by rfl) (fun w' hS => by exact build_heM _ _ _ _ _ _ _ rfl m hd HHD.out rfl rfl rfl rfl rfl _) hS ?_
      simp only [Act.put, List.setIfInBounds_toArray, List.set_cons_zero, List.set_cons_succ]
      obtain ⟨M0, hM0⟩ : ∃ N, W5.heap.size = N := ⟨_, rfl⟩
      have HM0 := Lib.hid hM0
      clear hM0
      refine wpAnyH_ready (show Region.ready _ _ _ = [1, 15] from by kernel_rfl) (by simp) (consCE (i := 1) (some 103) 11 #[.agg (loC l)] (R := fun v w' => LocV W5 l L v w') rfl rfl (by rfl) (by go_simp) (local_v l L W5 (HRl.out.below HB.out) HCl.out.2) (fun v w' h => by obtain ⟨A1, c1, L1, rfl, hr1, hs1, hb1⟩ := h; exact ⟨hS.1.below hb1 hS.1.lt, hS.2.1.below hb1 hS.2.1.lt, hS.2.2.1.below hb1 hS.2.2.1.lt, hS.2.2.2.1.below hb1 hS.2.2.2.1.lt, hS.2.2.2.2.trans (hb1.mono hS.2.2.2.2.size)⟩) ?_ (consMk (i := 15) (some 15) 36 (ajC aj0) rfl rfl (by rfl) rfl zero_ajP M0 HM0.out ?_ AllReadyH.nil))
      · skip
        clear HM0
        intro v W6 h hS2
        obtain ⟨A1, c1, L1, rfl, hr1, hs1, hb1⟩ := h
        simp only [Act.put, List.setIfInBounds_toArray, List.set_cons_zero, List.set_cons_succ]
        clear K1
        clear K2
        clear KP
        clear KQ
        clear HB
        clear hS
        have hS := hS2
        clear hS2
        have K1 := Lib.hid hS.1
        have K2 := Lib.hid hS.2.1
        have KP := Lib.hid hS.2.2.1
        have KQ := Lib.hid hS.2.2.2.1
        have HB := Lib.hid hS.2.2.2.2
        have HXL := Lib.hid hr1
        have HSL := Lib.hid hs1
        clear hr1 hs1 hb1
        obtain ⟨M1, hM1⟩ : ∃ N, W6.heap.size = N := ⟨_, rfl⟩
        have HM1 := Lib.hid hM1
        clear hM1
        refine wpAnyH_ready (show Region.ready _ _ _ = [10, 15] from by kernel_rfl) (by simp) (consCE (i := 10) (some 112) 12 #[.agg (heC hd)] (R := fun v w' => HelV W6 hd M v w') rfl rfl (by rfl) (by go_simp) (hello_v hd M W6 (HRh.out.below HB.out) HCh.out.2) (fun v w' h => by obtain ⟨A2, c2, H2, rfl, hr1, hs1, hb1⟩ := h; exact ⟨hS.1.below hb1 hS.1.lt, hS.2.1.below hb1 hS.2.1.lt, hS.2.2.1.below hb1 hS.2.2.1.lt, hS.2.2.2.1.below hb1 hS.2.2.2.1.lt, hS.2.2.2.2.trans (hb1.mono hS.2.2.2.2.size)⟩) ?_ (consMk (i := 15) (some 15) 36 (ajC aj0) rfl rfl (by rfl) rfl zero_ajP M1 HM1.out ?_ AllReadyH.nil))
        · skip
          clear HM1
          intro v W7 h hS2
          obtain ⟨A2, c2, H2, rfl, hr1, hs1, hb1⟩ := h
          simp only [Act.put, List.setIfInBounds_toArray, List.set_cons_zero, List.set_cons_succ]
          have HXLn := Lib.hid (HXL.out.below hb1)
          clear HXL
          have HXL := HXLn
          clear HXLn
          clear K1
          clear K2
          clear KP
          clear KQ
          clear HB
          clear hS
          have hS := hS2
          clear hS2
          have K1 := Lib.hid hS.1
          have K2 := Lib.hid hS.2.1
          have KP := Lib.hid hS.2.2.1
          have KQ := Lib.hid hS.2.2.2.1
          have HB := Lib.hid hS.2.2.2.2
          have HXH := Lib.hid hr1
          have HSH := Lib.hid hs1
          clear hr1 hs1 hb1
          obtain ⟨M2, hM2⟩ : ∃ N, W7.heap.size = N := ⟨_, rfl⟩
          have HM2 := Lib.hid hM2
          clear hM2
          refine wpAnyH_ready (show Region.ready _ _ _ = [11, 15] from by kernel_rfl) (by simp) (consC (i := 11) (some 113) 13 #[.agg (loC ⟨l.s, l.nu, l.lv, A1, l.m, c1⟩), .agg (ajC ajD), .agg (heC ⟨hd.s, hd.nu, hd.lv, hd.ho, A2, hd.m, c2, hd.st, hd.nm, hd.th, hd.tn⟩), .int .i64 0] (.tuple #[.agg (ajC R.1), .int .i64 R.2]) (R := fun w' => Below W7.heap.size W7 w') rfl rfl (by rfl) (by go_simp) (step_law l ajD hd 0 L M L1 H2 A1 A2 c1 c2 _ HYl.out by_z0 HYh.out.1 HYh.out.2.1 HXL.out HXH.out (by have := H3l.out; show l.m ≤ _; omega) (by have := HYh.out.2.2; show hd.m ≤ _; omega) HSL.out HSH.out R HR0.out) (fun w' hb => ⟨hS.1.below hb hS.1.lt, hS.2.1.below hb hS.2.1.lt, hS.2.2.1.below hb hS.2.2.1.lt, hS.2.2.2.1.below hb hS.2.2.2.1.lt, hS.2.2.2.2.trans (hb.mono hS.2.2.2.2.size)⟩) ?_ (consMk (i := 15) (some 15) 36 (ajC aj0) rfl rfl (by rfl) rfl zero_ajP M2 HM2.out ?_ AllReadyH.nil))
          · skip
            clear HM2
            intro W8 hb1 hS2
            simp only [Act.put, List.setIfInBounds_toArray, List.set_cons_zero, List.set_cons_succ]
            have HXLn := Lib.hid (HXL.out.below hb1)
            clear HXL
            have HXL := HXLn
            clear HXLn
            have HXHn := Lib.hid (HXH.out.below hb1)
            clear HXH
            have HXH := HXHn
            clear HXHn
            clear K1
            clear K2
            clear KP
            clear KQ
            clear HB
            clear hS
            have hS := hS2
            clear hS2
            have K1 := Lib.hid hS.1
            have K2 := Lib.hid hS.2.1
            have KP := Lib.hid hS.2.2.1
            have KQ := Lib.hid hS.2.2.2.1
            have HB := Lib.hid hS.2.2.2.2
            clear HXL HXH HSL HSH
            clear hb1
            obtain ⟨M3, hM3⟩ : ∃ N, W8.heap.size = N := ⟨_, rfl⟩
            have HM3 := Lib.hid hM3
            clear hM3
            refine takeY (i := 12) (some 101) (v := .tuple #[.agg (ajC R.1), .int .i64 R.2]) rfl rfl (by kernel_rfl) (by kernel_rfl) (by kernel_rfl) (fun _ _ _ h => h) (by rfl) (fun w' hS => by go_simp) hS ?_
            simp only [Act.put, List.setIfInBounds_toArray, List.set_cons_zero, List.set_cons_succ]
            refine takeY (i := 13) (some 114) (v := .agg (ajC R.1)) rfl rfl (by kernel_rfl) (by kernel_rfl) (by kernel_rfl) (fun _ _ _ h => h) (by rfl) (fun w' hS => by go_simp) hS ?_
            simp only [Act.put, List.setIfInBounds_toArray, List.set_cons_zero, List.set_cons_succ]
            refine takeY (i := 14) (some 115) (v := .int .i64 R.2) rfl rfl (by kernel_rfl) (by kernel_rfl) (by kernel_rfl) (fun _ _ _ h => h) (by rfl) (fun w' hS => by go_simp) hS ?_
            simp only [Act.put, List.setIfInBounds_toArray, List.set_cons_zero, List.set_cons_succ]
            refine takeMk (i := 15) (some 15) 36 (ajC aj0) rfl rfl (by kernel_rfl) (by rfl) rfl zero_ajP M3 HM3.out ?_
            intro W9 k1 b1 s1
            refine ⟨⟨hS.1.below b1 hS.1.lt, hS.2.1.below b1 hS.2.1.lt, hS.2.2.1.below b1 hS.2.2.1.lt, hS.2.2.2.1.below b1 hS.2.2.2.1.lt, hS.2.2.2.2.trans (b1.mono hS.2.2.2.2.size)⟩, ?_⟩
            simp only [Act.put, List.setIfInBounds_toArray, List.set_cons_zero, List.set_cons_succ]
            have K5 := Lib.hid k1
            clear k1
            have lt_N1_M3 : N1 < M3 := by rw [← HM3.out]; exact K1.out.lt
            have lt_N2_M3 : N2 < M3 := by rw [← HM3.out]; exact K2.out.lt
            have lt_P_M3 : P < M3 := by rw [← HM3.out]; exact KP.out.lt
            have lt_Q_M3 : Q < M3 := by rw [← HM3.out]; exact KQ.out.lt
            have le_HB_M3 : w.heap.size ≤ M3 := by rw [← HM3.out]; exact HB.out.size
            have K1n := Lib.hid (K1.out.below b1 K1.out.lt)
            clear K1
            have K1 := K1n
            clear K1n
            have K2n := Lib.hid (K2.out.below b1 K2.out.lt)
            clear K2
            have K2 := K2n
            clear K2n
            have KPn := Lib.hid (KP.out.below b1 KP.out.lt)
            clear KP
            have KP := KPn
            clear KPn
            have KQn := Lib.hid (KQ.out.below b1 KQ.out.lt)
            clear KQ
            have KQ := KQn
            clear KQn
            have HBn := Lib.hid (HB.out.trans (b1.mono HB.out.size))
            clear HB
            have HB := HBn
            clear HBn
            clear b1 HM3 hS
            have hS := (And.intro K1.out (And.intro K2.out (And.intro KP.out (And.intro KQ.out HB.out))))
            refine takeSt (i := 16) 36 (.tmp 15) (.tmp 114) M3 0 (.agg (ajC R.1)) (ajC R.1) (ajC R.1) rfl rfl (by kernel_rfl) (by rfl) rfl rfl rfl rfl info_ajP (ajC_one _) K5.out (Nat.le_of_ble_eq_true rfl) (aj_put _ _) ?_
            intro W10 q1
            refine ⟨⟨K1.out.far q1 (by omega), K2.out.far q1 (by omega), KP.out.far q1 (by omega), KQ.out.far q1 (by omega), HB.out.trans (q1.2.1 _ (by omega))⟩, ?_⟩
            simp only [Act.put]
            have K5n : Hid (Blk 36 W10 M3 (ajC R.1)) := Lib.hid q1.1
            clear K5
            have K5 := K5n
            clear K5n
            have K1n := Lib.hid (K1.out.far q1 (by omega))
            clear K1
            have K1 := K1n
            clear K1n
            have K2n := Lib.hid (K2.out.far q1 (by omega))
            clear K2
            have K2 := K2n
            clear K2n
            have KPn := Lib.hid (KP.out.far q1 (by omega))
            clear KP
            have KP := KPn
            clear KPn
            have KQn := Lib.hid (KQ.out.far q1 (by omega))
            clear KQ
            have KQ := KQn
            clear KQn
            have HBn := Lib.hid (HB.out.trans (q1.2.1 _ (by omega)))
            clear HB
            have HB := HBn
            clear HBn
            clear q1 hS
            have hS := (And.intro K1.out (And.intro K2.out (And.intro KP.out (And.intro KQ.out HB.out))))
            refine takeY (i := 17) (some 16) (v := .int .i64 R.2) rfl rfl (by kernel_rfl) (by kernel_rfl) (by kernel_rfl) (fun _ _ _ h => h) (by rfl) (fun w' hS => by go_simp) hS ?_
            simp only [Act.put, List.setIfInBounds_toArray, List.set_cons_zero, List.set_cons_succ]
            clear hS
            refine wpAnyH_done (by kernel_rfl) ?_ _
            go_wp2_with fail
            go_meet
            case rel => exact ⟨rfl, K1, K2, KP, KQ, HB⟩
          · skip
            intro W9 k1 b1 s1
            refine ⟨⟨hS.1.below b1 hS.1.lt, hS.2.1.below b1 hS.2.1.lt, hS.2.2.1.below b1 hS.2.2.1.lt, hS.2.2.2.1.below b1 hS.2.2.2.1.lt, hS.2.2.2.2.trans (b1.mono hS.2.2.2.2.size)⟩, ?_⟩
            simp only [Act.put, List.setIfInBounds_toArray, List.set_cons_zero, List.set_cons_succ]
            have K5 := Lib.hid k1
            clear k1
            have lt_N1_M2 : N1 < M2 := by rw [← HM2.out]; exact K1.out.lt
            have lt_N2_M2 : N2 < M2 := by rw [← HM2.out]; exact K2.out.lt
            have lt_P_M2 : P < M2 := by rw [← HM2.out]; exact KP.out.lt
            have lt_Q_M2 : Q < M2 := by rw [← HM2.out]; exact KQ.out.lt
            have le_HB_M2 : w.heap.size ≤ M2 := by rw [← HM2.out]; exact HB.out.size
            have HXLn := Lib.hid (HXL.out.below b1)
            clear HXL
            have HXL := HXLn
            clear HXLn
            have HXHn := Lib.hid (HXH.out.below b1)
            clear HXH
            have HXH := HXHn
            clear HXHn
            have K1n := Lib.hid (K1.out.below b1 K1.out.lt)
            clear K1
            have K1 := K1n
            clear K1n
            have K2n := Lib.hid (K2.out.below b1 K2.out.lt)
            clear K2
            have K2 := K2n
            clear K2n
            have KPn := Lib.hid (KP.out.below b1 KP.out.lt)
            clear KP
            have KP := KPn
            clear KPn
            have KQn := Lib.hid (KQ.out.below b1 KQ.out.lt)
            clear KQ
            have KQ := KQn
            clear KQn
            have HBn := Lib.hid (HB.out.trans (b1.mono HB.out.size))
            clear HB
            have HB := HBn
            clear HBn
            clear b1 HM2 hS
            have hS := (And.intro K1.out (And.intro K2.out (And.intro KP.out (And.intro KQ.out HB.out))))
            refine takeC (i := 11) (some 113) 13 #[.agg (loC ⟨l.s, l.nu, l.lv, A1, l.m, c1⟩), .agg (ajC ajD), .agg (heC ⟨hd.s, hd.nu, hd.lv, hd.ho, A2, hd.m, c2, hd.st, hd.nm, hd.th, hd.tn⟩), .int .i64 0] (.tuple #[.agg (ajC R.1), .int .i64 R.2]) (R := fun w' => Below W9.heap.size W9 w') rfl rfl (by kernel_rfl) (by rfl) (by go_simp) (step_law l ajD hd 0 L M L1 H2 A1 A2 c1 c2 _ HYl.out by_z0 HYh.out.1 HYh.out.2.1 HXL.out HXH.out (by have := H3l.out; show l.m ≤ _; omega) (by have := HYh.out.2.2; show hd.m ≤ _; omega) HSL.out HSH.out R HR0.out) (fun w' hb => ⟨hS.1.below hb hS.1.lt, hS.2.1.below hb hS.2.1.lt, hS.2.2.1.below hb hS.2.2.1.lt, hS.2.2.2.1.below hb hS.2.2.2.1.lt, hS.2.2.2.2.trans (hb.mono hS.2.2.2.2.size)⟩) ?_
            intro W10 hb1 hS2
            simp only [Act.put, List.setIfInBounds_toArray, List.set_cons_zero, List.set_cons_succ]
            have HXLn := Lib.hid (HXL.out.below hb1)
            clear HXL
            have HXL := HXLn
            clear HXLn
            have HXHn := Lib.hid (HXH.out.below hb1)
            clear HXH
            have HXH := HXHn
            clear HXHn
            have K5n := Lib.hid (K5.out.below hb1 K5.out.lt)
            clear K5
            have K5 := K5n
            clear K5n
            clear K1
            clear K2
            clear KP
            clear KQ
            clear HB
            clear hS
            have hS := hS2
            clear hS2
            have K1 := Lib.hid hS.1
            have K2 := Lib.hid hS.2.1
            have KP := Lib.hid hS.2.2.1
            have KQ := Lib.hid hS.2.2.2.1
            have HB := Lib.hid hS.2.2.2.2
            clear HXL HXH HSL HSH
            clear hb1
            refine takeY (i := 12) (some 101) (v := .tuple #[.agg (ajC R.1), .int .i64 R.2]) rfl rfl (by kernel_rfl) (by kernel_rfl) (by kernel_rfl) (fun _ _ _ h => h) (by rfl) (fun w' hS => by go_simp) hS ?_
            simp only [Act.put, List.setIfInBounds_toArray, List.set_cons_zero, List.set_cons_succ]
            refine takeY (i := 13) (some 114) (v := .agg (ajC R.1)) rfl rfl (by kernel_rfl) (by kernel_rfl) (by kernel_rfl) (fun _ _ _ h => h) (by rfl) (fun w' hS => by go_simp) hS ?_
            simp only [Act.put, List.setIfInBounds_toArray, List.set_cons_zero, List.set_cons_succ]
            refine takeY (i := 14) (some 115) (v := .int .i64 R.2) rfl rfl (by kernel_rfl) (by kernel_rfl) (by kernel_rfl) (fun _ _ _ h => h) (by rfl) (fun w' hS => by go_simp) hS ?_
            simp only [Act.put, List.setIfInBounds_toArray, List.set_cons_zero, List.set_cons_succ]
            refine takeSt (i := 16) 36 (.tmp 15) (.tmp 114) M2 0 (.agg (ajC R.1)) (ajC R.1) (ajC R.1) rfl rfl (by kernel_rfl) (by rfl) rfl rfl rfl rfl info_ajP (ajC_one _) K5.out (Nat.le_of_ble_eq_true rfl) (aj_put _ _) ?_
            intro W11 q1
            refine ⟨⟨K1.out.far q1 (by omega), K2.out.far q1 (by omega), KP.out.far q1 (by omega), KQ.out.far q1 (by omega), HB.out.trans (q1.2.1 _ (by omega))⟩, ?_⟩
            simp only [Act.put]
            have K5n : Hid (Blk 36 W11 M2 (ajC R.1)) := Lib.hid q1.1
            clear K5
            have K5 := K5n
            clear K5n
            have K1n := Lib.hid (K1.out.far q1 (by omega))
            clear K1
            have K1 := K1n
            clear K1n
            have K2n := Lib.hid (K2.out.far q1 (by omega))
            clear K2
            have K2 := K2n
            clear K2n
            have KPn := Lib.hid (KP.out.far q1 (by omega))
            clear KP
            have KP := KPn
            clear KPn
            have KQn := Lib.hid (KQ.out.far q1 (by omega))
            clear KQ
            have KQ := KQn
            clear KQn
            have HBn := Lib.hid (HB.out.trans (q1.2.1 _ (by omega)))
            clear HB
            have HB := HBn
            clear HBn
            clear q1 hS
            have hS := (And.intro K1.out (And.intro K2.out (And.intro KP.out (And.intro KQ.out HB.out))))
            refine takeY (i := 17) (some 16) (v := .int .i64 R.2) rfl rfl (by kernel_rfl) (by kernel_rfl) (by kernel_rfl) (fun _ _ _ h => h) (by rfl) (fun w' hS => by go_simp) hS ?_
            simp only [Act.put, List.setIfInBounds_toArray, List.set_cons_zero, List.set_cons_succ]
            clear hS
            refine wpAnyH_done (by kernel_rfl) ?_ _
            go_wp2_with fail
            go_meet
            case rel => exact ⟨rfl, K1, K2, KP, KQ, HB⟩
        · skip
          intro W8 k1 b1 s1
          refine ⟨⟨hS.1.below b1 hS.1.lt, hS.2.1.below b1 hS.2.1.lt, hS.2.2.1.below b1 hS.2.2.1.lt, hS.2.2.2.1.below b1 hS.2.2.2.1.lt, hS.2.2.2.2.trans (b1.mono hS.2.2.2.2.size)⟩, ?_⟩
          simp only [Act.put, List.setIfInBounds_toArray, List.set_cons_zero, List.set_cons_succ]
          have K5 := Lib.hid k1
          clear k1
          have lt_N1_M1 : N1 < M1 := by rw [← HM1.out]; exact K1.out.lt
          have lt_N2_M1 : N2 < M1 := by rw [← HM1.out]; exact K2.out.lt
          have lt_P_M1 : P < M1 := by rw [← HM1.out]; exact KP.out.lt
          have lt_Q_M1 : Q < M1 := by rw [← HM1.out]; exact KQ.out.lt
          have le_HB_M1 : w.heap.size ≤ M1 := by rw [← HM1.out]; exact HB.out.size
          have HXLn := Lib.hid (HXL.out.below b1)
          clear HXL
          have HXL := HXLn
          clear HXLn
          have K1n := Lib.hid (K1.out.below b1 K1.out.lt)
          clear K1
          have K1 := K1n
          clear K1n
          have K2n := Lib.hid (K2.out.below b1 K2.out.lt)
          clear K2
          have K2 := K2n
          clear K2n
          have KPn := Lib.hid (KP.out.below b1 KP.out.lt)
          clear KP
          have KP := KPn
          clear KPn
          have KQn := Lib.hid (KQ.out.below b1 KQ.out.lt)
          clear KQ
          have KQ := KQn
          clear KQn
          have HBn := Lib.hid (HB.out.trans (b1.mono HB.out.size))
          clear HB
          have HB := HBn
          clear HBn
          clear b1 HM1 hS
          have hS := (And.intro K1.out (And.intro K2.out (And.intro KP.out (And.intro KQ.out HB.out))))
          refine takeCE (i := 10) (some 112) 12 #[.agg (heC hd)] (R := fun v w' => HelV W8 hd M v w') rfl rfl (by kernel_rfl) (by rfl) (by go_simp) (hello_v hd M W8 (HRh.out.below HB.out) HCh.out.2) (fun v w' h => by obtain ⟨A2, c2, H2, rfl, hr1, hs1, hb1⟩ := h; exact ⟨hS.1.below hb1 hS.1.lt, hS.2.1.below hb1 hS.2.1.lt, hS.2.2.1.below hb1 hS.2.2.1.lt, hS.2.2.2.1.below hb1 hS.2.2.2.1.lt, hS.2.2.2.2.trans (hb1.mono hS.2.2.2.2.size)⟩) ?_
          intro v W9 h hS2
          obtain ⟨A2, c2, H2, rfl, hr1, hs1, hb1⟩ := h
          simp only [Act.put, List.setIfInBounds_toArray, List.set_cons_zero, List.set_cons_succ]
          have HXLn := Lib.hid (HXL.out.below hb1)
          clear HXL
          have HXL := HXLn
          clear HXLn
          have K5n := Lib.hid (K5.out.below hb1 K5.out.lt)
          clear K5
          have K5 := K5n
          clear K5n
          clear K1
          clear K2
          clear KP
          clear KQ
          clear HB
          clear hS
          have hS := hS2
          clear hS2
          have K1 := Lib.hid hS.1
          have K2 := Lib.hid hS.2.1
          have KP := Lib.hid hS.2.2.1
          have KQ := Lib.hid hS.2.2.2.1
          have HB := Lib.hid hS.2.2.2.2
          have HXH := Lib.hid hr1
          have HSH := Lib.hid hs1
          clear hr1 hs1 hb1
          refine takeC (i := 11) (some 113) 13 #[.agg (loC ⟨l.s, l.nu, l.lv, A1, l.m, c1⟩), .agg (ajC ajD), .agg (heC ⟨hd.s, hd.nu, hd.lv, hd.ho, A2, hd.m, c2, hd.st, hd.nm, hd.th, hd.tn⟩), .int .i64 0] (.tuple #[.agg (ajC R.1), .int .i64 R.2]) (R := fun w' => Below W9.heap.size W9 w') rfl rfl (by kernel_rfl) (by rfl) (by go_simp) (step_law l ajD hd 0 L M L1 H2 A1 A2 c1 c2 _ HYl.out by_z0 HYh.out.1 HYh.out.2.1 HXL.out HXH.out (by have := H3l.out; show l.m ≤ _; omega) (by have := HYh.out.2.2; show hd.m ≤ _; omega) HSL.out HSH.out R HR0.out) (fun w' hb => ⟨hS.1.below hb hS.1.lt, hS.2.1.below hb hS.2.1.lt, hS.2.2.1.below hb hS.2.2.1.lt, hS.2.2.2.1.below hb hS.2.2.2.1.lt, hS.2.2.2.2.trans (hb.mono hS.2.2.2.2.size)⟩) ?_
          intro W10 hb1 hS2
          simp only [Act.put, List.setIfInBounds_toArray, List.set_cons_zero, List.set_cons_succ]
          have HXLn := Lib.hid (HXL.out.below hb1)
          clear HXL
          have HXL := HXLn
          clear HXLn
          have HXHn := Lib.hid (HXH.out.below hb1)
          clear HXH
          have HXH := HXHn
          clear HXHn
          have K5n := Lib.hid (K5.out.below hb1 K5.out.lt)
          clear K5
          have K5 := K5n
          clear K5n
          clear K1
          clear K2
          clear KP
          clear KQ
          clear HB
          clear hS
          have hS := hS2
          clear hS2
          have K1 := Lib.hid hS.1
          have K2 := Lib.hid hS.2.1
          have KP := Lib.hid hS.2.2.1
          have KQ := Lib.hid hS.2.2.2.1
          have HB := Lib.hid hS.2.2.2.2
          clear HXL HXH HSL HSH
          clear hb1
          refine takeY (i := 12) (some 101) (v := .tuple #[.agg (ajC R.1), .int .i64 R.2]) rfl rfl (by kernel_rfl) (by kernel_rfl) (by kernel_rfl) (fun _ _ _ h => h) (by rfl) (fun w' hS => by go_simp) hS ?_
          simp only [Act.put, List.setIfInBounds_toArray, List.set_cons_zero, List.set_cons_succ]
          refine takeY (i := 13) (some 114) (v := .agg (ajC R.1)) rfl rfl (by kernel_rfl) (by kernel_rfl) (by kernel_rfl) (fun _ _ _ h => h) (by rfl) (fun w' hS => by go_simp) hS ?_
          simp only [Act.put, List.setIfInBounds_toArray, List.set_cons_zero, List.set_cons_succ]
          refine takeY (i := 14) (some 115) (v := .int .i64 R.2) rfl rfl (by kernel_rfl) (by kernel_rfl) (by kernel_rfl) (fun _ _ _ h => h) (by rfl) (fun w' hS => by go_simp) hS ?_
          simp only [Act.put, List.setIfInBounds_toArray, List.set_cons_zero, List.set_cons_succ]
          refine takeSt (i := 16) 36 (.tmp 15) (.tmp 114) M1 0 (.agg (ajC R.1)) (ajC R.1) (ajC R.1) rfl rfl (by kernel_rfl) (by rfl) rfl rfl rfl rfl info_ajP (ajC_one _) K5.out (Nat.le_of_ble_eq_true rfl) (aj_put _ _) ?_
          intro W11 q1
          refine ⟨⟨K1.out.far q1 (by omega), K2.out.far q1 (by omega), KP.out.far q1 (by omega), KQ.out.far q1 (by omega), HB.out.trans (q1.2.1 _ (by omega))⟩, ?_⟩
          simp only [Act.put]
          have K5n : Hid (Blk 36 W11 M1 (ajC R.1)) := Lib.hid q1.1
          clear K5
          have K5 := K5n
          clear K5n
          have K1n := Lib.hid (K1.out.far q1 (by omega))
          clear K1
          have K1 := K1n
          clear K1n
          have K2n := Lib.hid (K2.out.far q1 (by omega))
          clear K2
          have K2 := K2n
          clear K2n
          have KPn := Lib.hid (KP.out.far q1 (by omega))
          clear KP
          have KP := KPn
          clear KPn
          have KQn := Lib.hid (KQ.out.far q1 (by omega))
          clear KQ
          have KQ := KQn
          clear KQn
          have HBn := Lib.hid (HB.out.trans (q1.2.1 _ (by omega)))
          clear HB
          have HB := HBn
          clear HBn
          clear q1 hS
          have hS := (And.intro K1.out (And.intro K2.out (And.intro KP.out (And.intro KQ.out HB.out))))
          refine takeY (i := 17) (some 16) (v := .int .i64 R.2) rfl rfl (by kernel_rfl) (by kernel_rfl) (by kernel_rfl) (fun _ _ _ h => h) (by rfl) (fun w' hS => by go_simp) hS ?_
          simp only [Act.put, List.setIfInBounds_toArray, List.set_cons_zero, List.set_cons_succ]
          clear hS
          refine wpAnyH_done (by kernel_rfl) ?_ _
          go_wp2_with fail
          go_meet
          case rel => exact ⟨rfl, K1, K2, KP, KQ, HB⟩
      · skip
        intro W7 k1 b1 s1
        refine ⟨⟨hS.1.below b1 hS.1.lt, hS.2.1.below b1 hS.2.1.lt, hS.2.2.1.below b1 hS.2.2.1.lt, hS.2.2.2.1.below b1 hS.2.2.2.1.lt, hS.2.2.2.2.trans (b1.mono hS.2.2.2.2.size)⟩, ?_⟩
        simp only [Act.put, List.setIfInBounds_toArray, List.set_cons_zero, List.set_cons_succ]
        have K5 := Lib.hid k1
        clear k1
        have lt_N1_M0 : N1 < M0 := by rw [← HM0.out]; exact K1.out.lt
        have lt_N2_M0 : N2 < M0 := by rw [← HM0.out]; exact K2.out.lt
        have lt_P_M0 : P < M0 := by rw [← HM0.out]; exact KP.out.lt
        have lt_Q_M0 : Q < M0 := by rw [← HM0.out]; exact KQ.out.lt
        have le_HB_M0 : w.heap.size ≤ M0 := by rw [← HM0.out]; exact HB.out.size
        have K1n := Lib.hid (K1.out.below b1 K1.out.lt)
        clear K1
        have K1 := K1n
        clear K1n
        have K2n := Lib.hid (K2.out.below b1 K2.out.lt)
        clear K2
        have K2 := K2n
        clear K2n
        have KPn := Lib.hid (KP.out.below b1 KP.out.lt)
        clear KP
        have KP := KPn
        clear KPn
        have KQn := Lib.hid (KQ.out.below b1 KQ.out.lt)
        clear KQ
        have KQ := KQn
        clear KQn
        have HBn := Lib.hid (HB.out.trans (b1.mono HB.out.size))
        clear HB
        have HB := HBn
        clear HBn
        clear b1 HM0 hS
        have hS := (And.intro K1.out (And.intro K2.out (And.intro KP.out (And.intro KQ.out HB.out))))
        refine takeCE (i := 1) (some 103) 11 #[.agg (loC l)] (R := fun v w' => LocV W7 l L v w') rfl rfl (by kernel_rfl) (by rfl) (by go_simp) (local_v l L W7 (HRl.out.below HB.out) HCl.out.2) (fun v w' h => by obtain ⟨A1, c1, L1, rfl, hr1, hs1, hb1⟩ := h; exact ⟨hS.1.below hb1 hS.1.lt, hS.2.1.below hb1 hS.2.1.lt, hS.2.2.1.below hb1 hS.2.2.1.lt, hS.2.2.2.1.below hb1 hS.2.2.2.1.lt, hS.2.2.2.2.trans (hb1.mono hS.2.2.2.2.size)⟩) ?_
        intro v W8 h hS2
        obtain ⟨A1, c1, L1, rfl, hr1, hs1, hb1⟩ := h
        simp only [Act.put, List.setIfInBounds_toArray, List.set_cons_zero, List.set_cons_succ]
        have K5n := Lib.hid (K5.out.below hb1 K5.out.lt)
        clear K5
        have K5 := K5n
        clear K5n
        clear K1
        clear K2
        clear KP
        clear KQ
        clear HB
        clear hS
        have hS := hS2
        clear hS2
        have K1 := Lib.hid hS.1
        have K2 := Lib.hid hS.2.1
        have KP := Lib.hid hS.2.2.1
        have KQ := Lib.hid hS.2.2.2.1
        have HB := Lib.hid hS.2.2.2.2
        have HXL := Lib.hid hr1
        have HSL := Lib.hid hs1
        clear hr1 hs1 hb1
        refine takeCE (i := 10) (some 112) 12 #[.agg (heC hd)] (R := fun v w' => HelV W8 hd M v w') rfl rfl (by kernel_rfl) (by rfl) (by go_simp) (hello_v hd M W8 (HRh.out.below HB.out) HCh.out.2) (fun v w' h => by obtain ⟨A2, c2, H2, rfl, hr1, hs1, hb1⟩ := h; exact ⟨hS.1.below hb1 hS.1.lt, hS.2.1.below hb1 hS.2.1.lt, hS.2.2.1.below hb1 hS.2.2.1.lt, hS.2.2.2.1.below hb1 hS.2.2.2.1.lt, hS.2.2.2.2.trans (hb1.mono hS.2.2.2.2.size)⟩) ?_
        intro v W9 h hS2
        obtain ⟨A2, c2, H2, rfl, hr1, hs1, hb1⟩ := h
        simp only [Act.put, List.setIfInBounds_toArray, List.set_cons_zero, List.set_cons_succ]
        have HXLn := Lib.hid (HXL.out.below hb1)
        clear HXL
        have HXL := HXLn
        clear HXLn
        have K5n := Lib.hid (K5.out.below hb1 K5.out.lt)
        clear K5
        have K5 := K5n
        clear K5n
        clear K1
        clear K2
        clear KP
        clear KQ
        clear HB
        clear hS
        have hS := hS2
        clear hS2
        have K1 := Lib.hid hS.1
        have K2 := Lib.hid hS.2.1
        have KP := Lib.hid hS.2.2.1
        have KQ := Lib.hid hS.2.2.2.1
        have HB := Lib.hid hS.2.2.2.2
        have HXH := Lib.hid hr1
        have HSH := Lib.hid hs1
        clear hr1 hs1 hb1
        refine takeC (i := 11) (some 113) 13 #[.agg (loC ⟨l.s, l.nu, l.lv, A1, l.m, c1⟩), .agg (ajC ajD), .agg (heC ⟨hd.s, hd.nu, hd.lv, hd.ho, A2, hd.m, c2, hd.st, hd.nm, hd.th, hd.tn⟩), .int .i64 0] (.tuple #[.agg (ajC R.1), .int .i64 R.2]) (R := fun w' => Below W9.heap.size W9 w') rfl rfl (by kernel_rfl) (by rfl) (by go_simp) (step_law l ajD hd 0 L M L1 H2 A1 A2 c1 c2 _ HYl.out by_z0 HYh.out.1 HYh.out.2.1 HXL.out HXH.out (by have := H3l.out; show l.m ≤ _; omega) (by have := HYh.out.2.2; show hd.m ≤ _; omega) HSL.out HSH.out R HR0.out) (fun w' hb => ⟨hS.1.below hb hS.1.lt, hS.2.1.below hb hS.2.1.lt, hS.2.2.1.below hb hS.2.2.1.lt, hS.2.2.2.1.below hb hS.2.2.2.1.lt, hS.2.2.2.2.trans (hb.mono hS.2.2.2.2.size)⟩) ?_
        intro W10 hb1 hS2
        simp only [Act.put, List.setIfInBounds_toArray, List.set_cons_zero, List.set_cons_succ]
        have HXLn := Lib.hid (HXL.out.below hb1)
        clear HXL
        have HXL := HXLn
        clear HXLn
        have HXHn := Lib.hid (HXH.out.below hb1)
        clear HXH
        have HXH := HXHn
        clear HXHn
        have K5n := Lib.hid (K5.out.below hb1 K5.out.lt)
        clear K5
        have K5 := K5n
        clear K5n
        clear K1
        clear K2
        clear KP
        clear KQ
        clear HB
        clear hS
        have hS := hS2
        clear hS2
        have K1 := Lib.hid hS.1
        have K2 := Lib.hid hS.2.1
        have KP := Lib.hid hS.2.2.1
        have KQ := Lib.hid hS.2.2.2.1
        have HB := Lib.hid hS.2.2.2.2
        clear HXL HXH HSL HSH
        clear hb1
        refine takeY (i := 12) (some 101) (v := .tuple #[.agg (ajC R.1), .int .i64 R.2]) rfl rfl (by kernel_rfl) (by kernel_rfl) (by kernel_rfl) (fun _ _ _ h => h) (by rfl) (fun w' hS => by go_simp) hS ?_
        simp only [Act.put, List.setIfInBounds_toArray, List.set_cons_zero, List.set_cons_succ]
        refine takeY (i := 13) (some 114) (v := .agg (ajC R.1)) rfl rfl (by kernel_rfl) (by kernel_rfl) (by kernel_rfl) (fun _ _ _ h => h) (by rfl) (fun w' hS => by go_simp) hS ?_
        simp only [Act.put, List.setIfInBounds_toArray, List.set_cons_zero, List.set_cons_succ]
        refine takeY (i := 14) (some 115) (v := .int .i64 R.2) rfl rfl (by kernel_rfl) (by kernel_rfl) (by kernel_rfl) (fun _ _ _ h => h) (by rfl) (fun w' hS => by go_simp) hS ?_
        simp only [Act.put, List.setIfInBounds_toArray, List.set_cons_zero, List.set_cons_succ]
        refine takeSt (i := 16) 36 (.tmp 15) (.tmp 114) M0 0 (.agg (ajC R.1)) (ajC R.1) (ajC R.1) rfl rfl (by kernel_rfl) (by rfl) rfl rfl rfl rfl info_ajP (ajC_one _) K5.out (Nat.le_of_ble_eq_true rfl) (aj_put _ _) ?_
        intro W11 q1
        refine ⟨⟨K1.out.far q1 (by omega), K2.out.far q1 (by omega), KP.out.far q1 (by omega), KQ.out.far q1 (by omega), HB.out.trans (q1.2.1 _ (by omega))⟩, ?_⟩
        simp only [Act.put]
        have K5n : Hid (Blk 36 W11 M0 (ajC R.1)) := Lib.hid q1.1
        clear K5
        have K5 := K5n
        clear K5n
        have K1n := Lib.hid (K1.out.far q1 (by omega))
        clear K1
        have K1 := K1n
        clear K1n
        have K2n := Lib.hid (K2.out.far q1 (by omega))
        clear K2
        have K2 := K2n
        clear K2n
        have KPn := Lib.hid (KP.out.far q1 (by omega))
        clear KP
        have KP := KPn
        clear KPn
        have KQn := Lib.hid (KQ.out.far q1 (by omega))
        clear KQ
        have KQ := KQn
        clear KQn
        have HBn := Lib.hid (HB.out.trans (q1.2.1 _ (by omega)))
        clear HB
        have HB := HBn
        clear HBn
        clear q1 hS
        have hS := (And.intro K1.out (And.intro K2.out (And.intro KP.out (And.intro KQ.out HB.out))))
        refine takeY (i := 17) (some 16) (v := .int .i64 R.2) rfl rfl (by kernel_rfl) (by kernel_rfl) (by kernel_rfl) (fun _ _ _ h => h) (by rfl) (fun w' hS => by go_simp) hS ?_
        simp only [Act.put, List.setIfInBounds_toArray, List.set_cons_zero, List.set_cons_succ]
        clear hS
        refine wpAnyH_done (by kernel_rfl) ?_ _
        go_wp2_with fail
        go_meet
        case rel => exact ⟨rfl, K1, K2, KP, KQ, HB⟩
    case rest =>
    as_aux_lemma =>
    clear K1 K2 K3 KP KQ HB
    obtain ⟨rfl, K1, K2, KP, KQ, HB⟩ := hcut
    obtain ⟨e, he⟩ : ∃ e, R.2 = e := ⟨_, rfl⟩
    rw [he] at HF ⊢
    clear HR0 he
    rcases HF.out with rfl | ⟨rfl, hM⟩
    · clear HF
      go_wp2_with fail
      go_ret
      exact ⟨rfl, HB.out⟩
    clear HF
    have HM := Lib.hid hM
    clear hM
    obtain ⟨n, hn, hn4, hn8⟩ := cnt5 HMO.out
    go_upto_region 15 with (fail)
    go_cut [123, 124] (fun s1 s2 wc => s1 = .int .i64 (n : Int) ∧ s2 = .int .i64 0 ∧ Hid (Blk 26 wc N1 (loC l)) ∧ Hid (Blk 26 wc N2 (loC m)) ∧ Hid (Blk 56 wc P (sdC l a)) ∧ Hid (Blk 56 wc Q (sdC m b)) ∧ Hid (Below w.heap.size w wc))
    case first =>
      go_wp2_with fail
      go_meet
      case rel => exact ⟨by first | rfl | rw [hn], rfl, K1, K2, KP, KQ, HB⟩
    case rest =>
    as_aux_lemma =>
    clear K1 K2 KP KQ HB hn
    obtain ⟨rfl, rfl, K1, K2, KP, KQ, HB⟩ := hcut
    go_wp2_with fail
    have HI : Hid (StI l m (comI m.lv l.lv s) 0 a b) := Lib.hid ⟨HSA.out.2.2, HSB.out.2, .inl ⟨rfl, HSA.out, HSB.out⟩⟩
    clear HSA HSB
    go_loopw [124] (fun t wr => ∃ (i : Nat) (a b : Aj), i ≤ n ∧ t = .int .i64 i ∧ Hid (StI l m (comI m.lv l.lv s) i a b) ∧ Hid (Blk 56 wr P (sdC l a)) ∧ Hid (Blk 56 wr Q (sdC m b)) ∧ Hid (Blk 26 wr N1 (loC l)) ∧ Hid (Blk 26 wr N2 (loC m)) ∧ Hid (Below w.heap.size w wr)) (fun t _ => n - (intOf t).toNat)
    case atStart => exact ⟨0, a, b, by omega, rfl, HI, KP, KQ, K1, K2, HB⟩
    case round =>
      clear HI KP KQ K1 K2 HB
      obtain ⟨i, a, b, hin, rfl, HI, KP, KQ, K1, K2, HB⟩ := hrel
      by_cases hlt : i < n
      · skip
        obtain ⟨R1, h1⟩ : ∃ R1, stepR m b (tellD l a 10) i s = R1 := ⟨_, rfl⟩
        obtain ⟨R2, h2⟩ : ∃ R2, stepR l a (tellD m R1.1 10) i s = R2 := ⟨_, rfl⟩
        obtain ⟨z1, z2, y1, e1, e2, hI⟩ := round_any HM.out HYl.out HYm.out (by omega) HI.out h1 h2
        have H1 : Hid (stepR m b (tellD l a 10) i (shB M m.m L (tellD l a 10).m) = R1) := Lib.hid (by rw [sh_two e1 HS.out]; exact h1)
        have H2 : Hid (stepR l a (tellD m R1.1 10) i (shB L l.m M (tellD m R1.1 10).m) = R2) := Lib.hid (by rw [sh_one e2 HS.out]; exact h2)
        have HZ := Lib.hid (And.intro z1 z2)
        have HE := Lib.hid (And.intro e1 e2)
        have HY1 := Lib.hid y1
        have HN := Lib.hid hI
        clear z1 z2 e1 e2 y1 hI h1 h2
        go_wp2_with fail
        refine (speak_any P Q l m a b i L M w _ KP.out KQ.out hPQ HYl.out HI.out.1 HYm.out HI.out.2.1 HB.out HRl.out HRm.out HCl.out.2 HCm.out.2 HE.out.1 hP0 hQ0 R1 H1.out).mono ?_
        rintro e v1 ⟨he, kq, kp, hbw⟩
        rw [show (R1.2 == 0) = true from by rw [HZ.out.1]; rfl] at he
        subst he
        have K1n := Lib.hid (K1.out.below (hbw Q (Nat.le_refl _)) (by omega))
        clear K1
        have K1 := K1n
        clear K1n
        have K2n := Lib.hid (K2.out.below (hbw Q (Nat.le_refl _)) (by omega))
        clear K2
        have K2 := K2n
        clear K2n
        have HBn := Lib.hid (HB.out.trans (hbw _ hQ0))
        clear HB hbw
        have HB := HBn
        clear HBn
        clear KP KQ
        have KP := Lib.hid kp
        have KQ := Lib.hid kq
        clear kp kq
        go_wp2_with fail
        refine (speak_any Q P m l R1.1 a i M L w _ KQ.out KP.out hPQ.symm HYm.out HY1.out HYl.out HI.out.1 HB.out HRm.out HRl.out HCm.out.2 HCl.out.2 HE.out.2 hQ0 hP0 R2 H2.out).mono ?_
        rintro e v2 ⟨he, kq, kp, hbw⟩
        rw [show (R2.2 == 0) = true from by rw [HZ.out.2]; rfl] at he
        subst he
        have K1n := Lib.hid (K1.out.below (hbw P (Nat.le_refl _)) (by omega))
        clear K1
        have K1 := K1n
        clear K1n
        have K2n := Lib.hid (K2.out.below (hbw P (Nat.le_refl _)) (by omega))
        clear K2
        have K2 := K2n
        clear K2n
        have HBn := Lib.hid (HB.out.trans (hbw _ hP0))
        clear HB hbw
        have HB := HBn
        clear HBn
        clear KQ KP
        have KQ := Lib.hid kp
        have KP := Lib.hid kq
        clear kp kq
        go_wp2_with fail
        go_roundw
        case rel => exact ⟨i + 1, _, _, by omega, by go_num, HN, KP, KQ, K1, K2, HB⟩
        case measure => simp only [intOf]; omega
      obtain rfl : i = n := by omega
      obtain ⟨⟨ua, rfl⟩, ⟨ub, rfl⟩⟩ := HI.out.last (by omega)
      clear HI
      obtain ⟨c, hc⟩ : ∃ c, comI m.lv l.lv s = c := ⟨_, rfl⟩
      rw [hc] at KP KQ
      have HC := Lib.hid hc
      clear hc
      have HW : Hid (SdS w P Q N1 N2 l m c ua wr) := Lib.hid ⟨KP.out, ⟨ub, KQ.out⟩, K1.out, K2.out, HB.out⟩
      clear KP KQ K1 K2 HB
      go_wp2_with fail
      go_loopw [140] (fun t ws => ∃ j : Nat, j ≤ 2 ∧ t = .int .i64 j ∧ Hid (SdS w P Q N1 N2 l m c ua ws)) (fun t _ => 2 - (intOf t).toNat)
      case atStart => exact ⟨0, by omega, rfl, HW⟩
      case round =>
        clear HW
        obtain ⟨j, hj, rfl, HW⟩ := hrel
        by_cases hlt : j < 2
        · skip
          go_wp2_with fail
          refine wp_region_held_drew (S := fun w' => SdS w P Q N1 N2 l m c ua w') (by kernel_rfl) HW.out.drew (fun hS => ?_)
          generalize hWd : wr.drew = wd at hS ⊢
          clear hWd
          refine takeY (i := 0) (some 143) (v := .pointer (some ⟨P, 0, none⟩)) rfl rfl (by kernel_rfl) (by kernel_rfl) (by kernel_rfl) (fun _ _ _ h => h) (by rfl) (fun w' hS => by go_simp) hS ?_
          simp only [Act.put, List.setIfInBounds_toArray, List.set_cons_zero, List.set_cons_succ]
          refine takeY (i := 1) (some 144) (v := .pointer (some ⟨P, 0, none⟩)) rfl rfl (by kernel_rfl) (by kernel_rfl) (by kernel_rfl) (fun _ _ _ h => h) (by rfl) (fun w' hS => by go_simp) hS ?_
          simp only [Act.put, List.setIfInBounds_toArray, List.set_cons_zero, List.set_cons_succ]
          refine takeY (i := 2) (some 145) (v := .pointer (some ⟨P, 9, none⟩)) rfl rfl (by kernel_rfl) (by kernel_rfl) (by kernel_rfl) (fun _ _ _ h => h) (by rfl) (fun w' hS => by go_simp) hS ?_
          simp only [Act.put, List.setIfInBounds_toArray, List.set_cons_zero, List.set_cons_succ]
          refine takeY (i := 3) (some 146) (v := .pointer (some ⟨P, 9, none⟩)) rfl rfl (by kernel_rfl) (by kernel_rfl) (by kernel_rfl) (fun _ _ _ h => h) (by rfl) (fun w' hS => by go_simp) hS ?_
          simp only [Act.put, List.setIfInBounds_toArray, List.set_cons_zero, List.set_cons_succ]
          refine takeY (i := 4) (some 147) (v := .int .i64 0) rfl rfl (by kernel_rfl) (by kernel_rfl) (by kernel_rfl) (fun _ _ _ h => h) (by rfl) (fun w' hS => by (have c9 : w'.cell? ⟨P, 9, none⟩ = some (.int .i64 0) := (hS.p.cell 9).trans rfl; clear hS; go_simp)) hS ?_
          simp only [Act.put, List.setIfInBounds_toArray, List.set_cons_zero, List.set_cons_succ]
          refine takeY (i := 5) (some 148) (v := .bool false) rfl rfl (by kernel_rfl) (by kernel_rfl) (by kernel_rfl) (fun _ _ _ h => h) (by rfl) (fun w' hS => by go_simp) hS ?_
          simp only [Act.put, List.setIfInBounds_toArray, List.set_cons_zero, List.set_cons_succ]
          refine takeY (i := 6) (some 149) (v := .bool false) rfl rfl (by kernel_rfl) (by kernel_rfl) (by kernel_rfl) (fun _ _ _ h => h) (by rfl) (fun w' hS => by go_simp) hS ?_
          simp only [Act.put, List.setIfInBounds_toArray, List.set_cons_zero, List.set_cons_succ]
          refine takeY (i := 7) (some 150) (v := .pointer (some ⟨Q, 0, none⟩)) rfl rfl (by kernel_rfl) (by kernel_rfl) (by kernel_rfl) (fun _ _ _ h => h) (by rfl) (fun w' hS => by go_simp) hS ?_
          simp only [Act.put, List.setIfInBounds_toArray, List.set_cons_zero, List.set_cons_succ]
          refine takeY (i := 8) (some 151) (v := .pointer (some ⟨Q, 0, none⟩)) rfl rfl (by kernel_rfl) (by kernel_rfl) (by kernel_rfl) (fun _ _ _ h => h) (by rfl) (fun w' hS => by go_simp) hS ?_
          simp only [Act.put, List.setIfInBounds_toArray, List.set_cons_zero, List.set_cons_succ]
          refine takeY (i := 9) (some 152) (v := .pointer (some ⟨Q, 9, none⟩)) rfl rfl (by kernel_rfl) (by kernel_rfl) (by kernel_rfl) (fun _ _ _ h => h) (by rfl) (fun w' hS => by go_simp) hS ?_
          simp only [Act.put, List.setIfInBounds_toArray, List.set_cons_zero, List.set_cons_succ]
          refine takeY (i := 10) (some 153) (v := .pointer (some ⟨Q, 9, none⟩)) rfl rfl (by kernel_rfl) (by kernel_rfl) (by kernel_rfl) (fun _ _ _ h => h) (by rfl) (fun w' hS => by go_simp) hS ?_
          simp only [Act.put, List.setIfInBounds_toArray, List.set_cons_zero, List.set_cons_succ]
          refine takeY (i := 11) (some 154) (v := .int .i64 0) rfl rfl (by kernel_rfl) (by kernel_rfl) (by kernel_rfl) (fun _ _ _ h => h) (by rfl) (fun w' hS => by (obtain ⟨ub, hq⟩ := hS.q; have c9 : w'.cell? ⟨Q, 9, none⟩ = some (.int .i64 0) := (hq.cell 9).trans rfl; clear hq hS; go_simp)) hS ?_
          simp only [Act.put, List.setIfInBounds_toArray, List.set_cons_zero, List.set_cons_succ]
          refine takeY (i := 12) (some 155) (v := .bool false) rfl rfl (by kernel_rfl) (by kernel_rfl) (by kernel_rfl) (fun _ _ _ h => h) (by rfl) (fun w' hS => by go_simp) hS ?_
          simp only [Act.put, List.setIfInBounds_toArray, List.set_cons_zero, List.set_cons_succ]
          refine takeY (i := 13) (some 156) (v := .bool false) rfl rfl (by kernel_rfl) (by kernel_rfl) (by kernel_rfl) (fun _ _ _ h => h) (by rfl) (fun w' hS => by go_simp) hS ?_
          simp only [Act.put, List.setIfInBounds_toArray, List.set_cons_zero, List.set_cons_succ]
          refine takeY (i := 14) (some 157) (v := .bool false) rfl rfl (by kernel_rfl) (by kernel_rfl) (by kernel_rfl) (fun _ _ _ h => h) (by rfl) (fun w' hS => by go_simp) hS ?_
          simp only [Act.put, List.setIfInBounds_toArray, List.set_cons_zero, List.set_cons_succ]
          refine takeY (i := 15) (some 158) (v := .pointer (some ⟨P, 0, none⟩)) rfl rfl (by kernel_rfl) (by kernel_rfl) (by kernel_rfl) (fun _ _ _ h => h) (by rfl) (fun w' hS => by go_simp) hS ?_
          simp only [Act.put, List.setIfInBounds_toArray, List.set_cons_zero, List.set_cons_succ]
          refine takeY (i := 16) (some 159) (v := .pointer (some ⟨P, 0, none⟩)) rfl rfl (by kernel_rfl) (by kernel_rfl) (by kernel_rfl) (fun _ _ _ h => h) (by rfl) (fun w' hS => by go_simp) hS ?_
          simp only [Act.put, List.setIfInBounds_toArray, List.set_cons_zero, List.set_cons_succ]
          refine takeY (i := 17) (some 160) (v := .pointer (some ⟨P, 9, none⟩)) rfl rfl (by kernel_rfl) (by kernel_rfl) (by kernel_rfl) (fun _ _ _ h => h) (by rfl) (fun w' hS => by go_simp) hS ?_
          simp only [Act.put, List.setIfInBounds_toArray, List.set_cons_zero, List.set_cons_succ]
          refine takeY (i := 18) (some 161) (v := .pointer (some ⟨P, 10, none⟩)) rfl rfl (by kernel_rfl) (by kernel_rfl) (by kernel_rfl) (fun _ _ _ h => h) (by rfl) (fun w' hS => by go_simp) hS ?_
          simp only [Act.put, List.setIfInBounds_toArray, List.set_cons_zero, List.set_cons_succ]
          refine takeL (i := 19) (some 162) 23 (.tmp 161) P 10 (syC m.s) _ rfl rfl (by kernel_rfl) (by kernel_rfl) (by kernel_rfl) (fun _ _ _ h => h) (by rfl) rfl rfl (fun w' hS => hS.p.sdp) Try.underlying23 rfl info_sys hS ?_
          simp only [Act.put, List.setIfInBounds_toArray, List.set_cons_zero, List.set_cons_succ]
          refine takeY (i := 20) (some 163) (v := .pointer (some ⟨N2, 0, none⟩)) rfl rfl (by kernel_rfl) (by kernel_rfl) (by kernel_rfl) (fun _ _ _ h => h) (by rfl) (fun w' hS => by go_simp) hS ?_
          simp only [Act.put, List.setIfInBounds_toArray, List.set_cons_zero, List.set_cons_succ]
          refine takeL (i := 21) (some 164) 23 (.tmp 163) N2 0 (syC m.s) _ rfl rfl (by kernel_rfl) (by kernel_rfl) (by kernel_rfl) (fun _ _ _ h => h) (by rfl) rfl rfl (fun w' hS => hS.k2.los) Try.underlying23 rfl info_sys hS ?_
          simp only [Act.put, List.setIfInBounds_toArray, List.set_cons_zero, List.set_cons_succ]
          refine takeY (i := 22) (some 165) (v := .bool false) rfl rfl (by kernel_rfl) (by kernel_rfl) (by kernel_rfl) (fun _ _ _ h => h) (by rfl) (fun w' hS => by exact sys_neq _ _ _ _ _ rfl rfl m.s m.s HYm.out HYm.out rfl rfl true (eqY_self _) _) hS ?_
          simp only [Act.put, List.setIfInBounds_toArray, List.set_cons_zero, List.set_cons_succ]
          refine takeY (i := 23) (some 166) (v := .bool false) rfl rfl (by kernel_rfl) (by kernel_rfl) (by kernel_rfl) (fun _ _ _ h => h) (by rfl) (fun w' hS => by go_simp) hS ?_
          simp only [Act.put, List.setIfInBounds_toArray, List.set_cons_zero, List.set_cons_succ]
          refine takeY (i := 24) (some 167) (v := .bool false) rfl rfl (by kernel_rfl) (by kernel_rfl) (by kernel_rfl) (fun _ _ _ h => h) (by rfl) (fun w' hS => by go_simp) hS ?_
          simp only [Act.put, List.setIfInBounds_toArray, List.set_cons_zero, List.set_cons_succ]
          refine takeY (i := 25) (some 168) (v := .pointer (some ⟨Q, 0, none⟩)) rfl rfl (by kernel_rfl) (by kernel_rfl) (by kernel_rfl) (fun _ _ _ h => h) (by rfl) (fun w' hS => by go_simp) hS ?_
          simp only [Act.put, List.setIfInBounds_toArray, List.set_cons_zero, List.set_cons_succ]
          refine takeY (i := 26) (some 169) (v := .pointer (some ⟨Q, 0, none⟩)) rfl rfl (by kernel_rfl) (by kernel_rfl) (by kernel_rfl) (fun _ _ _ h => h) (by rfl) (fun w' hS => by go_simp) hS ?_
          simp only [Act.put, List.setIfInBounds_toArray, List.set_cons_zero, List.set_cons_succ]
          refine takeY (i := 27) (some 170) (v := .pointer (some ⟨Q, 9, none⟩)) rfl rfl (by kernel_rfl) (by kernel_rfl) (by kernel_rfl) (fun _ _ _ h => h) (by rfl) (fun w' hS => by go_simp) hS ?_
          simp only [Act.put, List.setIfInBounds_toArray, List.set_cons_zero, List.set_cons_succ]
          refine takeY (i := 28) (some 171) (v := .pointer (some ⟨Q, 10, none⟩)) rfl rfl (by kernel_rfl) (by kernel_rfl) (by kernel_rfl) (fun _ _ _ h => h) (by rfl) (fun w' hS => by go_simp) hS ?_
          simp only [Act.put, List.setIfInBounds_toArray, List.set_cons_zero, List.set_cons_succ]
          refine takeL (i := 29) (some 172) 23 (.tmp 171) Q 10 (syC l.s) _ rfl rfl (by kernel_rfl) (by kernel_rfl) (by kernel_rfl) (fun _ _ _ h => h) (by rfl) rfl rfl (fun w' hS => by obtain ⟨ub, hq⟩ := hS.q; exact hq.sdp) Try.underlying23 rfl info_sys hS ?_
          simp only [Act.put, List.setIfInBounds_toArray, List.set_cons_zero, List.set_cons_succ]
          refine takeY (i := 30) (some 173) (v := .pointer (some ⟨N1, 0, none⟩)) rfl rfl (by kernel_rfl) (by kernel_rfl) (by kernel_rfl) (fun _ _ _ h => h) (by rfl) (fun w' hS => by go_simp) hS ?_
          simp only [Act.put, List.setIfInBounds_toArray, List.set_cons_zero, List.set_cons_succ]
          refine takeL (i := 31) (some 174) 23 (.tmp 173) N1 0 (syC l.s) _ rfl rfl (by kernel_rfl) (by kernel_rfl) (by kernel_rfl) (fun _ _ _ h => h) (by rfl) rfl rfl (fun w' hS => hS.k1.los) Try.underlying23 rfl info_sys hS ?_
          simp only [Act.put, List.setIfInBounds_toArray, List.set_cons_zero, List.set_cons_succ]
          refine takeY (i := 32) (some 175) (v := .bool false) rfl rfl (by kernel_rfl) (by kernel_rfl) (by kernel_rfl) (fun _ _ _ h => h) (by rfl) (fun w' hS => by exact sys_neq _ _ _ _ _ rfl rfl l.s l.s HYl.out HYl.out rfl rfl true (eqY_self _) _) hS ?_
          simp only [Act.put, List.setIfInBounds_toArray, List.set_cons_zero, List.set_cons_succ]
          refine takeY (i := 33) (some 176) (v := .bool false) rfl rfl (by kernel_rfl) (by kernel_rfl) (by kernel_rfl) (fun _ _ _ h => h) (by rfl) (fun w' hS => by go_simp) hS ?_
          simp only [Act.put, List.setIfInBounds_toArray, List.set_cons_zero, List.set_cons_succ]
          refine takeY (i := 34) (some 177) (v := .bool false) rfl rfl (by kernel_rfl) (by kernel_rfl) (by kernel_rfl) (fun _ _ _ h => h) (by rfl) (fun w' hS => by go_simp) hS ?_
          simp only [Act.put, List.setIfInBounds_toArray, List.set_cons_zero, List.set_cons_succ]
          refine takeY (i := 35) (some 178) (v := .pointer (some ⟨P, 0, none⟩)) rfl rfl (by kernel_rfl) (by kernel_rfl) (by kernel_rfl) (fun _ _ _ h => h) (by rfl) (fun w' hS => by go_simp) hS ?_
          simp only [Act.put, List.setIfInBounds_toArray, List.set_cons_zero, List.set_cons_succ]
          refine takeY (i := 36) (some 179) (v := .pointer (some ⟨P, 0, none⟩)) rfl rfl (by kernel_rfl) (by kernel_rfl) (by kernel_rfl) (fun _ _ _ h => h) (by rfl) (fun w' hS => by go_simp) hS ?_
          simp only [Act.put, List.setIfInBounds_toArray, List.set_cons_zero, List.set_cons_succ]
          refine takeY (i := 37) (some 180) (v := .pointer (some ⟨P, 9, none⟩)) rfl rfl (by kernel_rfl) (by kernel_rfl) (by kernel_rfl) (fun _ _ _ h => h) (by rfl) (fun w' hS => by go_simp) hS ?_
          simp only [Act.put, List.setIfInBounds_toArray, List.set_cons_zero, List.set_cons_succ]
          refine takeY (i := 38) (some 181) (v := .pointer (some ⟨P, 16, none⟩)) rfl rfl (by kernel_rfl) (by kernel_rfl) (by kernel_rfl) (fun _ _ _ h => h) (by rfl) (fun w' hS => by go_simp) hS ?_
          simp only [Act.put, List.setIfInBounds_toArray, List.set_cons_zero, List.set_cons_succ]
          refine takeY (i := 39) (some 182) (v := .int .u8 m.nu) rfl rfl (by kernel_rfl) (by kernel_rfl) (by kernel_rfl) (fun _ _ _ h => h) (by rfl) (fun w' hS => by (have c9 : w'.cell? ⟨P, 16, none⟩ = some (.int .u8 m.nu) := (hS.p.cell 16).trans rfl; clear hS; go_simp)) hS ?_
          simp only [Act.put, List.setIfInBounds_toArray, List.set_cons_zero, List.set_cons_succ]
          refine takeY (i := 40) (some 183) (v := .pointer (some ⟨N2, 6, none⟩)) rfl rfl (by kernel_rfl) (by kernel_rfl) (by kernel_rfl) (fun _ _ _ h => h) (by rfl) (fun w' hS => by go_simp) hS ?_
          simp only [Act.put, List.setIfInBounds_toArray, List.set_cons_zero, List.set_cons_succ]
          refine takeY (i := 41) (some 184) (v := .int .u8 m.nu) rfl rfl (by kernel_rfl) (by kernel_rfl) (by kernel_rfl) (fun _ _ _ h => h) (by rfl) (fun w' hS => by (have c9 : w'.cell? ⟨N2, 6, none⟩ = some (.int .u8 m.nu) := (hS.k2.cell 6).trans rfl; clear hS; go_simp)) hS ?_
          simp only [Act.put, List.setIfInBounds_toArray, List.set_cons_zero, List.set_cons_succ]
          refine takeY (i := 42) (some 185) (v := .bool false) rfl rfl (by kernel_rfl) (by kernel_rfl) (by kernel_rfl) (fun _ _ _ h => h) (by rfl) (fun w' hS => by go_simp) hS ?_
          simp only [Act.put, List.setIfInBounds_toArray, List.set_cons_zero, List.set_cons_succ]
          refine takeY (i := 43) (some 186) (v := .bool false) rfl rfl (by kernel_rfl) (by kernel_rfl) (by kernel_rfl) (fun _ _ _ h => h) (by rfl) (fun w' hS => by go_simp) hS ?_
          simp only [Act.put, List.setIfInBounds_toArray, List.set_cons_zero, List.set_cons_succ]
          refine takeY (i := 44) (some 187) (v := .bool false) rfl rfl (by kernel_rfl) (by kernel_rfl) (by kernel_rfl) (fun _ _ _ h => h) (by rfl) (fun w' hS => by go_simp) hS ?_
          simp only [Act.put, List.setIfInBounds_toArray, List.set_cons_zero, List.set_cons_succ]
          refine takeY (i := 45) (some 188) (v := .pointer (some ⟨Q, 0, none⟩)) rfl rfl (by kernel_rfl) (by kernel_rfl) (by kernel_rfl) (fun _ _ _ h => h) (by rfl) (fun w' hS => by go_simp) hS ?_
          simp only [Act.put, List.setIfInBounds_toArray, List.set_cons_zero, List.set_cons_succ]
          refine takeY (i := 46) (some 189) (v := .pointer (some ⟨Q, 0, none⟩)) rfl rfl (by kernel_rfl) (by kernel_rfl) (by kernel_rfl) (fun _ _ _ h => h) (by rfl) (fun w' hS => by go_simp) hS ?_
          simp only [Act.put, List.setIfInBounds_toArray, List.set_cons_zero, List.set_cons_succ]
          refine takeY (i := 47) (some 190) (v := .pointer (some ⟨Q, 9, none⟩)) rfl rfl (by kernel_rfl) (by kernel_rfl) (by kernel_rfl) (fun _ _ _ h => h) (by rfl) (fun w' hS => by go_simp) hS ?_
          simp only [Act.put, List.setIfInBounds_toArray, List.set_cons_zero, List.set_cons_succ]
          refine takeY (i := 48) (some 191) (v := .pointer (some ⟨Q, 16, none⟩)) rfl rfl (by kernel_rfl) (by kernel_rfl) (by kernel_rfl) (fun _ _ _ h => h) (by rfl) (fun w' hS => by go_simp) hS ?_
          simp only [Act.put, List.setIfInBounds_toArray, List.set_cons_zero, List.set_cons_succ]
          refine takeY (i := 49) (some 192) (v := .int .u8 l.nu) rfl rfl (by kernel_rfl) (by kernel_rfl) (by kernel_rfl) (fun _ _ _ h => h) (by rfl) (fun w' hS => by (obtain ⟨ub, hq⟩ := hS.q; have c9 : w'.cell? ⟨Q, 16, none⟩ = some (.int .u8 l.nu) := (hq.cell 16).trans rfl; clear hq hS; go_simp)) hS ?_
          simp only [Act.put, List.setIfInBounds_toArray, List.set_cons_zero, List.set_cons_succ]
          refine takeY (i := 50) (some 193) (v := .pointer (some ⟨N1, 6, none⟩)) rfl rfl (by kernel_rfl) (by kernel_rfl) (by kernel_rfl) (fun _ _ _ h => h) (by rfl) (fun w' hS => by go_simp) hS ?_
          simp only [Act.put, List.setIfInBounds_toArray, List.set_cons_zero, List.set_cons_succ]
          refine takeY (i := 51) (some 194) (v := .int .u8 l.nu) rfl rfl (by kernel_rfl) (by kernel_rfl) (by kernel_rfl) (fun _ _ _ h => h) (by rfl) (fun w' hS => by (have c9 : w'.cell? ⟨N1, 6, none⟩ = some (.int .u8 l.nu) := (hS.k1.cell 6).trans rfl; clear hS; go_simp)) hS ?_
          simp only [Act.put, List.setIfInBounds_toArray, List.set_cons_zero, List.set_cons_succ]
          refine takeY (i := 52) (some 195) (v := .bool false) rfl rfl (by kernel_rfl) (by kernel_rfl) (by kernel_rfl) (fun _ _ _ h => h) (by rfl) (fun w' hS => by go_simp) hS ?_
          simp only [Act.put, List.setIfInBounds_toArray, List.set_cons_zero, List.set_cons_succ]
          refine takeY (i := 53) (some 196) (v := .bool false) rfl rfl (by kernel_rfl) (by kernel_rfl) (by kernel_rfl) (fun _ _ _ h => h) (by rfl) (fun w' hS => by go_simp) hS ?_
          simp only [Act.put, List.setIfInBounds_toArray, List.set_cons_zero, List.set_cons_succ]
          refine takeY (i := 54) (some 197) (v := .bool false) rfl rfl (by kernel_rfl) (by kernel_rfl) (by kernel_rfl) (fun _ _ _ h => h) (by rfl) (fun w' hS => by go_simp) hS ?_
          simp only [Act.put, List.setIfInBounds_toArray, List.set_cons_zero, List.set_cons_succ]
          refine takeY (i := 55) (some 198) (v := .pointer (some ⟨P, 0, none⟩)) rfl rfl (by kernel_rfl) (by kernel_rfl) (by kernel_rfl) (fun _ _ _ h => h) (by rfl) (fun w' hS => by go_simp) hS ?_
          simp only [Act.put, List.setIfInBounds_toArray, List.set_cons_zero, List.set_cons_succ]
          refine takeY (i := 56) (some 199) (v := .pointer (some ⟨P, 0, none⟩)) rfl rfl (by kernel_rfl) (by kernel_rfl) (by kernel_rfl) (fun _ _ _ h => h) (by rfl) (fun w' hS => by go_simp) hS ?_
          simp only [Act.put, List.setIfInBounds_toArray, List.set_cons_zero, List.set_cons_succ]
          refine takeY (i := 57) (some 200) (v := .pointer (some ⟨P, 9, none⟩)) rfl rfl (by kernel_rfl) (by kernel_rfl) (by kernel_rfl) (fun _ _ _ h => h) (by rfl) (fun w' hS => by go_simp) hS ?_
          simp only [Act.put, List.setIfInBounds_toArray, List.set_cons_zero, List.set_cons_succ]
          refine takeY (i := 58) (some 201) (v := .pointer (some ⟨P, 17, none⟩)) rfl rfl (by kernel_rfl) (by kernel_rfl) (by kernel_rfl) (fun _ _ _ h => h) (by rfl) (fun w' hS => by go_simp) hS ?_
          simp only [Act.put, List.setIfInBounds_toArray, List.set_cons_zero, List.set_cons_succ]
          refine takeY (i := 59) (some 202) (v := .int .i64 c) rfl rfl (by kernel_rfl) (by kernel_rfl) (by kernel_rfl) (fun _ _ _ h => h) (by rfl) (fun w' hS => by (have c9 : w'.cell? ⟨P, 17, none⟩ = some (.int .i64 c) := (hS.p.cell 17).trans rfl; clear hS; go_simp)) hS ?_
          simp only [Act.put, List.setIfInBounds_toArray, List.set_cons_zero, List.set_cons_succ]
          refine takeY (i := 60) (some 203) (v := .pointer (some ⟨Q, 0, none⟩)) rfl rfl (by kernel_rfl) (by kernel_rfl) (by kernel_rfl) (fun _ _ _ h => h) (by rfl) (fun w' hS => by go_simp) hS ?_
          simp only [Act.put, List.setIfInBounds_toArray, List.set_cons_zero, List.set_cons_succ]
          refine takeY (i := 61) (some 204) (v := .pointer (some ⟨Q, 0, none⟩)) rfl rfl (by kernel_rfl) (by kernel_rfl) (by kernel_rfl) (fun _ _ _ h => h) (by rfl) (fun w' hS => by go_simp) hS ?_
          simp only [Act.put, List.setIfInBounds_toArray, List.set_cons_zero, List.set_cons_succ]
          refine takeY (i := 62) (some 205) (v := .pointer (some ⟨Q, 9, none⟩)) rfl rfl (by kernel_rfl) (by kernel_rfl) (by kernel_rfl) (fun _ _ _ h => h) (by rfl) (fun w' hS => by go_simp) hS ?_
          simp only [Act.put, List.setIfInBounds_toArray, List.set_cons_zero, List.set_cons_succ]
          refine takeY (i := 63) (some 206) (v := .pointer (some ⟨Q, 17, none⟩)) rfl rfl (by kernel_rfl) (by kernel_rfl) (by kernel_rfl) (fun _ _ _ h => h) (by rfl) (fun w' hS => by go_simp) hS ?_
          simp only [Act.put, List.setIfInBounds_toArray, List.set_cons_zero, List.set_cons_succ]
          refine takeY (i := 64) (some 207) (v := .int .i64 c) rfl rfl (by kernel_rfl) (by kernel_rfl) (by kernel_rfl) (fun _ _ _ h => h) (by rfl) (fun w' hS => by (obtain ⟨ub, hq⟩ := hS.q; have c9 : w'.cell? ⟨Q, 17, none⟩ = some (.int .i64 c) := (hq.cell 17).trans rfl; clear hq hS; go_simp)) hS ?_
          simp only [Act.put, List.setIfInBounds_toArray, List.set_cons_zero, List.set_cons_succ]
          refine takeY (i := 65) (some 208) (v := .bool false) rfl rfl (by kernel_rfl) (by kernel_rfl) (by kernel_rfl) (fun _ _ _ h => h) (by rfl) (fun w' hS => by go_simp) hS ?_
          simp only [Act.put, List.setIfInBounds_toArray, List.set_cons_zero, List.set_cons_succ]
          refine takeY (i := 66) (some 209) (v := .bool false) rfl rfl (by kernel_rfl) (by kernel_rfl) (by kernel_rfl) (fun _ _ _ h => h) (by rfl) (fun w' hS => by go_simp) hS ?_
          simp only [Act.put, List.setIfInBounds_toArray, List.set_cons_zero, List.set_cons_succ]
          refine takeY (i := 67) (some 210) (v := .bool false) rfl rfl (by kernel_rfl) (by kernel_rfl) (by kernel_rfl) (fun _ _ _ h => h) (by rfl) (fun w' hS => by go_simp) hS ?_
          simp only [Act.put, List.setIfInBounds_toArray, List.set_cons_zero, List.set_cons_succ]
          refine takeY (i := 68) (some 211) (v := .pointer (some ⟨P, 0, none⟩)) rfl rfl (by kernel_rfl) (by kernel_rfl) (by kernel_rfl) (fun _ _ _ h => h) (by rfl) (fun w' hS => by go_simp) hS ?_
          simp only [Act.put, List.setIfInBounds_toArray, List.set_cons_zero, List.set_cons_succ]
          refine takeY (i := 69) (some 212) (v := .pointer (some ⟨Q, 0, none⟩)) rfl rfl (by kernel_rfl) (by kernel_rfl) (by kernel_rfl) (fun _ _ _ h => h) (by rfl) (fun w' hS => by go_simp) hS ?_
          simp only [Act.put, List.setIfInBounds_toArray, List.set_cons_zero, List.set_cons_succ]
          refine takeY (i := 70) (some 213) (v := .int .i64 j) rfl rfl (by kernel_rfl) (by kernel_rfl) (by kernel_rfl) (fun _ _ _ h => h) (by rfl) (fun w' hS => by go_simp) hS ?_
          simp only [Act.put, List.setIfInBounds_toArray, List.set_cons_zero, List.set_cons_succ]
          refine takeY (i := 71) (some 214) (v := .int .i64 (20 + (j : Int))) rfl rfl (by kernel_rfl) (by kernel_rfl) (by kernel_rfl) (fun _ _ _ h => h) (by rfl) (fun w' hS => by (go_simp; rw [IntKind.wrap_i64]; omega)) hS ?_
          simp only [Act.put, List.setIfInBounds_toArray, List.set_cons_zero, List.set_cons_succ]
          refine takeCE (i := 72) (some 215) 21 #[.pointer (some ⟨P, 0, none⟩), .pointer (some ⟨Q, 0, none⟩), .int .i64 (20 + (j : Int))] (R := fun v w' => v = .bool true ∧ SdS w P Q N1 N2 l m c ua w') rfl rfl (by kernel_rfl) (by rfl) (by go_simp) (speak_set hS (by omega) (by omega) hPQ HYl.out HYm.out HRl.out HRm.out HCl.out.2 HCm.out.2 hP0 hQ0 HS.out HM.out HC.out (by omega)) (fun v w' h => h.2) (fun v w9 h hS2 => ?_)
          obtain ⟨rfl, h⟩ := h
          clear hS h
          have hS := hS2
          clear hS2
          simp only [Act.put, List.setIfInBounds_toArray, List.set_cons_zero, List.set_cons_succ]
          refine takeY (i := 73) (some 216) (v := .bool false) rfl rfl (by kernel_rfl) (by kernel_rfl) (by kernel_rfl) (fun _ _ _ h => h) (by rfl) (fun w' hS => by go_simp) hS ?_
          simp only [Act.put, List.setIfInBounds_toArray, List.set_cons_zero, List.set_cons_succ]
          refine takeY (i := 74) (some 217) (v := .bool false) rfl rfl (by kernel_rfl) (by kernel_rfl) (by kernel_rfl) (fun _ _ _ h => h) (by rfl) (fun w' hS => by go_simp) hS ?_
          simp only [Act.put, List.setIfInBounds_toArray, List.set_cons_zero, List.set_cons_succ]
          have HW := Lib.hid hS
          clear hS
          refine wpAnyH_done (by kernel_rfl) ?_ _
          go_wp2_with fail
          go_roundw
          case rel => exact ⟨j + 1, by omega, by go_num, HW⟩
          case measure => simp only [intOf]; omega
        obtain rfl : j = 2 := by omega
        go_wp2_with fail
        go_ret
        exact ⟨rfl, HW.out.b⟩
end Go.Proofs.Ytcngkfmjngeofaa

/- A name of a router that came in as an argument is six bytes. No condition. -/
namespace Go.Proofs.Ytcngkfmjngeofaa
open Go.RowKit Go.ChangeShapes Go.WideShapes
set_option linter.unusedVariables false

theorem sixA {cs : Array Value} (h : cs.size = 6) : ∃ c0 c1 c2 c3 c4 c5, cs = #[c0, c1, c2, c3, c4, c5] := by
  obtain ⟨l⟩ := cs
  match l, h with
  | [c0, c1, c2, c3, c4, c5], _ => exact ⟨c0, c1, c2, c3, c4, c5, rfl⟩

theorem open_sysid {H : Type} {enc : TypeId × Value → H} {w : World} {base : Nat} {spare : Nat → Bool} {held : Bool} {r : Reach} {b0 : Nat} {v : Value} {d : DataW H} {ps : List MemPlace}
    (hv : Value.okWide Try.prog w r b0 23 v) (h : DataW.Trod enc Try.prog w base spare held 23 v d ps) :
    ∃ a0 a1 a2 a3 a4 a5 : Int, v = .agg #[.int .u8 a0, .int .u8 a1, .int .u8 a2, .int .u8 a3, .int .u8 a4, .int .u8 a5] ∧
      (0 ≤ a0 ∧ a0 ≤ 255) ∧ (0 ≤ a1 ∧ a1 ≤ 255) ∧ (0 ≤ a2 ∧ a2 ≤ 255) ∧ (0 ≤ a3 ∧ a3 ≤ 255) ∧ (0 ≤ a4 ∧ a4 ≤ 255) ∧ (0 ≤ a5 ∧ a5 ≤ 255) := by
  have hc6 : Try.prog.cellsOf 23 = 6 := by kernel_rfl
  have hc1 : Try.prog.cellsOf 5 = 1 := by kernel_rfl
  simp only [Value.okWide, Try.underlying23] at hv
  obtain ⟨cs, rfl, hsz, _⟩ := hv
  rw [hc6] at hsz
  obtain ⟨c0, c1, c2, c3, c4, c5, rfl⟩ := sixA hsz
  obtain ⟨fuel, hf⟩ := h
  obtain ⟨xs, m, _, _, _, hn, hel⟩ := DataW.trod_array Try.underlying23 hf
  have one : ∀ i, i < 6 → ∀ c, ((Value.agg #[c0, c1, c2, c3, c4, c5]).cells.toList.drop i).take 1 = [c] → ∃ a : Int, c = .int .u8 a ∧ 0 ≤ a ∧ a ≤ 255 := by
    intro i hi c hc
    have he := hel i hi
    rw [hc1, Nat.mul_one, hc, List.getElem?_eq_getElem (by omega)] at he
    obtain ⟨a, ea, _, wa⟩ := DataW.trod_int Try.underlying5 he
    simp at ea
    exact ⟨a, ea, wf_u8 wa⟩
  obtain ⟨a0, rfl, g0⟩ := one 0 (by omega) c0 rfl
  obtain ⟨a1, rfl, g1⟩ := one 1 (by omega) c1 rfl
  obtain ⟨a2, rfl, g2⟩ := one 2 (by omega) c2 rfl
  obtain ⟨a3, rfl, g3⟩ := one 3 (by omega) c3 rfl
  obtain ⟨a4, rfl, g4⟩ := one 4 (by omega) c4 rfl
  obtain ⟨a5, rfl, g5⟩ := one 5 (by omega) c5 rfl
  exact ⟨a0, a1, a2, a3, a4, a5, rfl, g0, g1, g2, g3, g4, g5⟩
/-- the same, told as a name -/
theorem open_sy {H : Type} {enc : TypeId × Value → H} {w : World} {base : Nat} {spare : Nat → Bool} {held : Bool} {r : Reach} {b0 : Nat} {v : Value} {d : DataW H} {ps : List MemPlace}
    (hv : Value.okWide Try.prog w r b0 23 v) (h : DataW.Trod enc Try.prog w base spare held 23 v d ps) : ∃ z, v = .agg (syC z) ∧ byB z := by
  obtain ⟨a0, a1, a2, a3, a4, a5, rfl, g0, g1, g2, g3, g4, g5⟩ := open_sysid hv h
  refine ⟨fun j => if j = 0 then a0 else if j = 1 then a1 else if j = 2 then a2 else if j = 3 then a3 else if j = 4 then a4 else if j = 5 then a5 else 0, rfl, fun j => ?_⟩
  simp only
  split
  · exact g0
  split
  · exact g1
  split
  · exact g2
  split
  · exact g3
  split
  · exact g4
  split
  · exact g5
  · omega
end Go.Proofs.Ytcngkfmjngeofaa
