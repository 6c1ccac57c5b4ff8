/- The document's DocGetEntries reads entries. Each theorem states its conditions. -/
import Derived.Test.YtigkmcbkckfhbaaDAt
namespace Go.Proofs.Ytigkmcbkckfhbaa
open Go.RowKit
set_option linter.unusedVariables false

theorem row_at {X : World} {b off n : Nat} {z : Nat → Int} (h : Row8 X b off n z) (P k m : Nat) (hk : P + k + m ≤ n) : Row8 X b (off + (P + k)) m (fun j => z (P + (k + j))) := by
  have := h.shift (P + k) m hk
  simpa only [Nat.add_assoc] using this
set_option maxHeartbeats 8000000 in
set_option maxRecDepth 100000 in
theorem docGetEntries_any (b off m c : Nat) (z : Nat → Int) (w : World) (hr : Row8 w b off (16 * m) z) (hm0 : 0 < m) (hm : m ≤ 15) (hc : 16 * m ≤ c) (hcm : c ≤ maxLen) :
    Calls Try.prog 26 #[.slice (some ⟨b, off, none⟩) (16 * m) c] w fun e w' => ∃ v, e = .returned (.tuple #[v, .int .i64 0]) ∧ w'.ownsRow w.heap.size 96 11 v m (cellsR (nC z) m) ∧ Below w.heap.size w w' := by
  have HR := Lib.hid hr
  have HZ := Lib.hid hr.2.2
  have hbw := hr.1
  have hML : maxLen = 9223372036854775807 := rfl
  obtain ⟨n, hn⟩ : ∃ n, 16 * m = n := ⟨_, rfl⟩
  rw [hn] at hc HR ⊢
  have HN := Lib.hid hn
  have q1 : (n : Int) ≤ 255 := by omega
  have q2 : (n : Int) % 16 = 0 := by omega
  rw [hML] at hcm
  clear hr hn hML
  go_enter Try.func26, Try.ntmps26
  go_wp2_with fail
  go_loopw [4, 5] (fun l t wr => ∃ (k P : Nat), k ≤ m ∧ t = .int .i64 (P : Nat) ∧ Hid (P = 16 * k) ∧ Hid (wr.ownsRow w.heap.size 96 11 l k (cellsR (nC z) k)) ∧ Hid (Below w.heap.size w wr))
    (fun _ t _ => n - (intOf t).toNat)
  case atStart => exact ⟨0, 0, by omega, rfl, Lib.hid rfl, Lib.hid (World.ownsRow_nil _ _ _ _), Lib.hid (bself w)⟩
  case round =>
    clear q2
    obtain ⟨k, P, hk, rfl, HP, HO, HW⟩ := hrel
    by_cases hkm : k < m
    rotate_left
    · obtain rfl : k = m := by omega
      have hPn : ¬ (P : Int) < (n : Int) := by have := HP.out; have := HN.out; omega
      go_wp2_with fail
      go_ret2
      exact ⟨_, rfl, HO.out, HW.out⟩
    · have hP16 : P + 16 ≤ n := by have := HP.out; have := HN.out; omega
      have hPn : (P : Int) < (n : Int) := by omega
      have hn255 : n ≤ 255 := by omega
      have Hk1 : Hid (k + 1 ≤ m ∧ P + 16 = 16 * (k + 1) ∧ k ≤ 14) := Lib.hid (by have := HP.out; omega)
      have hr1 := HR.out.below HW.out hbw
      have HCell : Hid (cellsR (nC z) k ++ (nC z k).toList = cellsR (nC z) (k + 1)) := Lib.hid rfl
      obtain ⟨zk, hzk⟩ : ∃ zk, (fun j => z (P + j)) = zk := ⟨_, rfl⟩
      have HnC : Hid (nC z k = enC (gEn zk)) := Lib.hid (by unfold nC; rw [← hzk, HP.out])
      have hzz : ∀ j, 0 ≤ zk j ∧ zk j ≤ 255 := fun j => by rw [← hzk]; exact HZ.out _
      have HZk := Lib.hid (fun j => show z (P + j) = zk j by rw [← hzk])
      clear hzk hkm
      obtain ⟨M1, hM1⟩ : ∃ M, (numZ zk 0 2).toNat = M := ⟨_, rfl⟩
      obtain ⟨M2, hM2⟩ : ∃ M, (numZ (fun j => zk (10 + j)) 0 4).toNat = M := ⟨_, rfl⟩
      obtain ⟨M3, hM3⟩ : ∃ M, (numZ (fun j => zk (14 + j)) 0 2).toNat = M := ⟨_, rfl⟩
      have b1 : M1 ≤ 65535 := by rw [← hM1]; exact n2_bd _ hzz
      have b2 : M2 ≤ 4294967295 := by rw [← hM2]; exact n4_bd _ (fun j => hzz _)
      have b3 : M3 ≤ 65535 := by rw [← hM3]; exact n2_bd _ (fun j => hzz _)
      have HEn : Hid (gEn zk = ⟨fun j => zk (2 + j), M2, (M1 : Int), M3⟩) := Lib.hid (by unfold gEn; rw [hM1, hM2, hM3])
      have eq0 : (fun j => z (P + (0 + j))) = zk := funext fun j => by rw [Nat.zero_add]; exact HZk.out j
      have eqk : ∀ s, (fun j => z (P + (s + j))) = fun j => zk (s + j) := fun s => funext fun j => HZk.out _
      obtain ⟨P2, hP2⟩ : ∃ q, P + 2 = q := ⟨_, rfl⟩
      obtain ⟨P10, hP10⟩ : ∃ q, P + 10 = q := ⟨_, rfl⟩
      obtain ⟨P14, hP14⟩ : ∃ q, P + 14 = q := ⟨_, rfl⟩
      have K1 := Lib.hid (fun (X : World) (hX : Row8 X b off n z) => show Calls Try.prog 46 #[.slice (some ⟨b, off + P, none⟩) (n - P) (c - P)] X (fun e w' => e = .returned (.int .i64 (M1 : Int)) ∧ Below X.heap.size X w') by
        rw [← hM1]
        have h := row_at hX P 0 (n - P) (by omega)
        rw [eq0] at h
        exact number_two _ _ _ _ zk X h (by omega))
      have K4 := Lib.hid (fun (X : World) (hX : Row8 X b off n z) => show Calls Try.prog 48 #[.slice (some ⟨b, off + P2, none⟩) (n - P2) (c - P2)] X (fun e w' => e = .returned (.agg (idC fun j => zk (2 + j))) ∧ Below X.heap.size X w') by
        have h := row_at hX P 2 (n - P2) (by omega)
        rw [eqk 2, hP2] at h
        exact idAt_any _ _ _ _ _ X h (by omega) (by omega))
      have K2 := Lib.hid (fun (X : World) (hX : Row8 X b off n z) => show Calls Try.prog 49 #[.slice (some ⟨b, off + P10, none⟩) 4 (c - P10)] X (fun e w' => e = .returned (.int .u64 (M2 : Int)) ∧ Below X.heap.size X w') by
        have h := row_at hX P 10 4 (by omega)
        rw [eqk 10, hP10] at h
        refine (number_any _ _ 4 _ _ X h (by omega)).mono ?_
        rintro e w' ⟨rfl, rfl⟩
        exact ⟨by rw [← hM2, Int.toNat_of_nonneg (numZ_lt _ 0 4 (fun j => hzz _)).1], Below.refl _ _⟩)
      have K3 := Lib.hid (fun (X : World) (hX : Row8 X b off n z) => show Calls Try.prog 46 #[.slice (some ⟨b, off + P14, none⟩) (n - P14) (c - P14)] X (fun e w' => e = .returned (.int .i64 (M3 : Int)) ∧ Below X.heap.size X w') by
        rw [← hM3]
        have h := row_at hX P 14 (n - P14) (by omega)
        rw [eqk 14, hP14] at h
        exact number_two _ _ _ _ _ X h (by omega))
      clear hM1 hM2 hM3 eq0 eqk
      obtain ⟨W0, hW0⟩ : ∃ W0, wr.drew = W0 := ⟨_, rfl⟩
      have HR0 : Hid (Row8 W0 b off n z) := Lib.hid (by rw [← hW0]; exact hr1)
      have HB0 : Hid (Below w.heap.size w W0) := Lib.hid (by rw [← hW0]; exact HW.out.drew)
      have HO0 : Hid (W0.ownsRow w.heap.size 96 11 u4 k (cellsR (nC z) k)) := Lib.hid (by rw [← hW0]; exact HO.out)
      have HWW := Lib.hid hW0
      clear hr1 hW0
      obtain ⟨F, hF⟩ : ∃ F, cellsR (nC z) k = F := ⟨_, rfl⟩
      rw [hF] at HO0 HCell
      clear hF
      have s0 : ¬ n < P := by omega
      have s2 : ¬ n < P2 := by omega
      have s14 : ¬ n < P14 := by omega
      have t14 : ¬ (c : Int) < (P14 : Int) := by omega
      have u14 : ¬ P14 < P10 := by omega
      have v14 : ¬ (P14 : Int) < (P10 : Int) := by omega
      have w14 : ¬ c < P14 := by omega
      have r2 : ¬ (n : Int) < (P2 : Int) := by omega
      have r14 : ¬ (n : Int) < (P14 : Int) := by omega
      have r0 : ¬ (n : Int) < (P : Int) := by omega
      have f0 : ¬ c = P := by omega
      have f2 : ¬ c = P2 := by omega
      have f10 : ¬ c = P10 := by omega
      have f14 : ¬ c = P14 := by omega
      have h4 : P14 - P10 = 4 := by omega
      have HP2 := Lib.hid hP2
      have HP10 := Lib.hid hP10
      have HP14 := Lib.hid hP14
      have g2 : (P : Int) + 2 = (P2 : Int) := by omega
      have g10 : (P : Int) + 10 = (P10 : Int) := by omega
      have g14 : (P : Int) + 14 = (P14 : Int) := by omega
      have p14 : P14 ≤ 255 := by omega
      have p10 : P10 ≤ 255 := by omega
      have p2 : P2 ≤ 255 := by omega
      clear hP2 hP10 hP14
      go_wp2_with fail
      refine wp_region_held_drew (S := fun w' => True) (by kernel_rfl) trivial (fun hS0 => ?_)
      rw [HWW.out]
      refine takeY (i := 0) (some 19) (v := u4) rfl rfl (by kernel_rfl) (by kernel_rfl) (by kernel_rfl) (fun _ _ _ h => h) (by rfl) (fun w' hS => by go_simp) trivial ?_
      simp only [Act.put, List.setIfInBounds_toArray, List.set_cons_zero, List.set_cons_succ]
      refine takeY (i := 1) (some 20) (v := .slice (some ⟨b, off, none⟩) n c) rfl rfl (by kernel_rfl) (by kernel_rfl) (by kernel_rfl) (fun _ _ _ h => h) (by rfl) (fun w' hS => by go_simp) trivial ?_
      simp only [Act.put, List.setIfInBounds_toArray, List.set_cons_zero, List.set_cons_succ]
      refine takeY (i := 2) (some 21) (v := .int .i64 (P : Int)) rfl rfl (by kernel_rfl) (by kernel_rfl) (by kernel_rfl) (fun _ _ _ h => h) (by rfl) (fun w' hS => by go_simp) trivial ?_
      simp only [Act.put, List.setIfInBounds_toArray, List.set_cons_zero, List.set_cons_succ]
      refine takeY (i := 3) (some 22) (v := .slice (some ⟨b, off + P, none⟩) (n - P) (c - P)) rfl rfl (by kernel_rfl) (by kernel_rfl) (by kernel_rfl) (fun _ _ _ h => h) (by rfl) (fun w' hS => by go_simp) trivial ?_
      simp only [Act.put, List.setIfInBounds_toArray, List.set_cons_zero, List.set_cons_succ]
      refine takeY (i := 5) (some 24) (v := .slice (some ⟨b, off, none⟩) n c) rfl rfl (by kernel_rfl) (by kernel_rfl) (by kernel_rfl) (fun _ _ _ h => h) (by rfl) (fun w' hS => by go_simp) trivial ?_
      simp only [Act.put, List.setIfInBounds_toArray, List.set_cons_zero, List.set_cons_succ]
      refine takeY (i := 6) (some 25) (v := .int .i64 (P : Int)) rfl rfl (by kernel_rfl) (by kernel_rfl) (by kernel_rfl) (fun _ _ _ h => h) (by rfl) (fun w' hS => by go_simp) trivial ?_
      simp only [Act.put, List.setIfInBounds_toArray, List.set_cons_zero, List.set_cons_succ]
      refine takeY (i := 7) (some 26) (v := .int .i64 (P2 : Int)) rfl rfl (by kernel_rfl) (by kernel_rfl) (by kernel_rfl) (fun _ _ _ h => h) (by rfl) (fun w' hS => by first | (go_simp; done) | (rw [← g2]; go_simp; done) | (rw [← g2]; go_simp; exact wrI _ (by omega) (by omega)) | (go_simp; rw [wrI _ (by omega) (by omega)]; omega)) trivial ?_
      simp only [Act.put, List.setIfInBounds_toArray, List.set_cons_zero, List.set_cons_succ]
      refine takeY (i := 8) (some 27) (v := .slice (some ⟨b, off + P2, none⟩) (n - P2) (c - P2)) rfl rfl (by kernel_rfl) (by kernel_rfl) (by kernel_rfl) (fun _ _ _ h => h) (by rfl) (fun w' hS => by go_simp) trivial ?_
      simp only [Act.put, List.setIfInBounds_toArray, List.set_cons_zero, List.set_cons_succ]
      refine takeY (i := 10) (some 29) (v := .slice (some ⟨b, off, none⟩) n c) rfl rfl (by kernel_rfl) (by kernel_rfl) (by kernel_rfl) (fun _ _ _ h => h) (by rfl) (fun w' hS => by go_simp) trivial ?_
      simp only [Act.put, List.setIfInBounds_toArray, List.set_cons_zero, List.set_cons_succ]
      refine takeY (i := 11) (some 30) (v := .int .i64 (P : Int)) rfl rfl (by kernel_rfl) (by kernel_rfl) (by kernel_rfl) (fun _ _ _ h => h) (by rfl) (fun w' hS => by go_simp) trivial ?_
      simp only [Act.put, List.setIfInBounds_toArray, List.set_cons_zero, List.set_cons_succ]
      refine takeY (i := 12) (some 31) (v := .int .i64 (P10 : Int)) rfl rfl (by kernel_rfl) (by kernel_rfl) (by kernel_rfl) (fun _ _ _ h => h) (by rfl) (fun w' hS => by first | (go_simp; done) | (rw [← g10]; go_simp; done) | (rw [← g10]; go_simp; exact wrI _ (by omega) (by omega)) | (go_simp; rw [wrI _ (by omega) (by omega)]; omega)) trivial ?_
      simp only [Act.put, List.setIfInBounds_toArray, List.set_cons_zero, List.set_cons_succ]
      refine takeY (i := 13) (some 32) (v := .int .i64 (P : Int)) rfl rfl (by kernel_rfl) (by kernel_rfl) (by kernel_rfl) (fun _ _ _ h => h) (by rfl) (fun w' hS => by go_simp) trivial ?_
      simp only [Act.put, List.setIfInBounds_toArray, List.set_cons_zero, List.set_cons_succ]
      refine takeY (i := 14) (some 33) (v := .int .i64 (P14 : Int)) rfl rfl (by kernel_rfl) (by kernel_rfl) (by kernel_rfl) (fun _ _ _ h => h) (by rfl) (fun w' hS => by first | (go_simp; done) | (rw [← g14]; go_simp; done) | (rw [← g14]; go_simp; exact wrI _ (by omega) (by omega)) | (go_simp; rw [wrI _ (by omega) (by omega)]; omega)) trivial ?_
      simp only [Act.put, List.setIfInBounds_toArray, List.set_cons_zero, List.set_cons_succ]
      refine takeY (i := 15) (some 34) (v := .slice (some ⟨b, off + P10, none⟩) 4 (c - P10)) rfl rfl (by kernel_rfl) (by kernel_rfl) (by kernel_rfl) (fun _ _ _ h => h) (by rfl) (fun w' hS => by go_simp) trivial ?_
      simp only [Act.put, List.setIfInBounds_toArray, List.set_cons_zero, List.set_cons_succ]
      refine takeY (i := 18) (some 37) (v := .slice (some ⟨b, off, none⟩) n c) rfl rfl (by kernel_rfl) (by kernel_rfl) (by kernel_rfl) (fun _ _ _ h => h) (by rfl) (fun w' hS => by go_simp) trivial ?_
      simp only [Act.put, List.setIfInBounds_toArray, List.set_cons_zero, List.set_cons_succ]
      refine takeY (i := 19) (some 38) (v := .int .i64 (P : Int)) rfl rfl (by kernel_rfl) (by kernel_rfl) (by kernel_rfl) (fun _ _ _ h => h) (by rfl) (fun w' hS => by go_simp) trivial ?_
      simp only [Act.put, List.setIfInBounds_toArray, List.set_cons_zero, List.set_cons_succ]
      refine takeY (i := 20) (some 39) (v := .int .i64 (P14 : Int)) rfl rfl (by kernel_rfl) (by kernel_rfl) (by kernel_rfl) (fun _ _ _ h => h) (by rfl) (fun w' hS => by first | (go_simp; done) | (rw [← g14]; go_simp; done) | (rw [← g14]; go_simp; exact wrI _ (by omega) (by omega)) | (go_simp; rw [wrI _ (by omega) (by omega)]; omega)) trivial ?_
      simp only [Act.put, List.setIfInBounds_toArray, List.set_cons_zero, List.set_cons_succ]
      refine takeY (i := 21) (some 40) (v := .slice (some ⟨b, off + P14, none⟩) (n - P14) (c - P14)) rfl rfl (by kernel_rfl) (by kernel_rfl) (by kernel_rfl) (fun _ _ _ h => h) (by rfl) (fun w' hS => by go_simp) trivial ?_
      simp only [Act.put, List.setIfInBounds_toArray, List.set_cons_zero, List.set_cons_succ]
      refine takeC (i := 4) (some 23) 46 #[.slice (some ⟨b, off + P, none⟩) (n - P) (c - P)] (.int .i64 (M1 : Int)) (R := fun w' => Below W0.heap.size W0 w') rfl rfl (by kernel_rfl) (by rfl) (by go_simp) (K1.out W0 HR0.out) (fun _ _ => trivial) (fun x1 hw _ => ?_)
      simp only [Act.put, List.setIfInBounds_toArray, List.set_cons_zero, List.set_cons_succ]
      have HR1 : Hid (Row8 x1 b off n z) := Lib.hid (HR0.out.below' hw)
      have HB1 : Hid (Below w.heap.size w x1) := Lib.hid (HB0.out.trans (hw.mono HB0.out.size))
      have HO1 : Hid (x1.ownsRow w.heap.size 96 11 u4 k F) := Lib.hid (ownsRow_below' HO0.out hw)
      clear hw HR0 HB0 HO0
      have HR0 := HR1
      have HB0 := HB1
      have HO0 := HO1
      clear HR1 HB1 HO1
      refine takeC (i := 9) (some 28) 48 #[.slice (some ⟨b, off + P2, none⟩) (n - P2) (c - P2)] (.agg (idC fun j => zk (2 + j))) (R := fun w' => Below x1.heap.size x1 w') rfl rfl (by kernel_rfl) (by rfl) (by go_simp) (K4.out x1 HR0.out) (fun _ _ => trivial) (fun x2 hw _ => ?_)
      simp only [Act.put, List.setIfInBounds_toArray, List.set_cons_zero, List.set_cons_succ]
      have HR1 : Hid (Row8 x2 b off n z) := Lib.hid (HR0.out.below' hw)
      have HB1 : Hid (Below w.heap.size w x2) := Lib.hid (HB0.out.trans (hw.mono HB0.out.size))
      have HO1 : Hid (x2.ownsRow w.heap.size 96 11 u4 k F) := Lib.hid (ownsRow_below' HO0.out hw)
      clear hw HR0 HB0 HO0
      have HR0 := HR1
      have HB0 := HB1
      have HO0 := HO1
      clear HR1 HB1 HO1
      refine takeC (i := 16) (some 35) 49 #[.slice (some ⟨b, off + P10, none⟩) 4 (c - P10)] (.int .u64 (M2 : Int)) (R := fun w' => Below x2.heap.size x2 w') rfl rfl (by kernel_rfl) (by rfl) (by go_simp) (K2.out x2 HR0.out) (fun _ _ => trivial) (fun x3 hw _ => ?_)
      simp only [Act.put, List.setIfInBounds_toArray, List.set_cons_zero, List.set_cons_succ]
      have HR1 : Hid (Row8 x3 b off n z) := Lib.hid (HR0.out.below' hw)
      have HB1 : Hid (Below w.heap.size w x3) := Lib.hid (HB0.out.trans (hw.mono HB0.out.size))
      have HO1 : Hid (x3.ownsRow w.heap.size 96 11 u4 k F) := Lib.hid (ownsRow_below' HO0.out hw)
      clear hw HR0 HB0 HO0
      have HR0 := HR1
      have HB0 := HB1
      have HO0 := HO1
      clear HR1 HB1 HO1
      refine takeY (i := 17) (some 36) (v := .int .u32 (M2 : Int)) rfl rfl (by kernel_rfl) (by kernel_rfl) (by kernel_rfl) (fun _ _ _ h => h) (by rfl) (fun w' hS => by first | (go_simp; done) | (go_simp; exact wU4 _ (by omega))) trivial ?_
      simp only [Act.put, List.setIfInBounds_toArray, List.set_cons_zero, List.set_cons_succ]
      refine takeC (i := 22) (some 41) 46 #[.slice (some ⟨b, off + P14, none⟩) (n - P14) (c - P14)] (.int .i64 (M3 : Int)) (R := fun w' => Below x3.heap.size x3 w') rfl rfl (by kernel_rfl) (by rfl) (by go_simp) (K3.out x3 HR0.out) (fun _ _ => trivial) (fun w1 hw _ => ?_)
      simp only [Act.put, List.setIfInBounds_toArray, List.set_cons_zero, List.set_cons_succ]
      have HR1 : Hid (Row8 w1 b off n z) := Lib.hid (HR0.out.below' hw)
      have HB1 : Hid (Below w.heap.size w w1) := Lib.hid (HB0.out.trans (hw.mono HB0.out.size))
      have HO1 : Hid (w1.ownsRow w.heap.size 96 11 u4 k F) := Lib.hid (ownsRow_below' HO0.out hw)
      clear hw HR0 HB0 HO0
      have HR0 := HR1
      have HB0 := HB1
      have HO0 := HO1
      clear HR1 HB1 HO1
      refine takeY (i := 23) (some 42) (v := .int .u16 (M3 : Int)) rfl rfl (by kernel_rfl) (by kernel_rfl) (by kernel_rfl) (fun _ _ _ h => h) (by rfl) (fun w' hS => by first | (go_simp; done) | (go_simp; exact wU2 _ (by omega))) trivial ?_
      simp only [Act.put, List.setIfInBounds_toArray, List.set_cons_zero, List.set_cons_succ]
      refine takeY (i := 24) (some 43) (v := .agg (enC (gEn zk))) rfl rfl (by kernel_rfl) (by kernel_rfl) (by kernel_rfl) (fun _ _ _ h => h) (by rfl) (fun w' hS => by rw [HEn.out]; exact build_en _ _ _ _ _ _ rfl ⟨fun j => zk (2 + j), M2, (M1 : Int), M3⟩ rfl rfl rfl rfl w') trivial ?_
      simp only [Act.put, List.setIfInBounds_toArray, List.set_cons_zero, List.set_cons_succ]
      refine takeV (i := 25) (some 44) (v := .slice (some ⟨w1.heap.size, 0, none⟩) 1 1) (w' := w1.alloc (.cells (enC (gEn zk)) 96)) rfl rfl (by kernel_rfl) (by rfl) (build_slice_en w1 _ _ rfl _ rfl) trivial ?_
      simp only [Act.put, List.setIfInBounds_toArray, List.set_cons_zero, List.set_cons_succ]
      refine takeAN (i := 26) (some 45) (.tmp 19) (.tmp 44) rfl rfl (by kernel_rfl) (by rfl) rfl w u4 k F rfl (HO0.out.alloc _) (HB0.out.alloc HB0.out.size _) ⟨w1.heap.size, 0, none⟩ 1 (enC (gEn zk)) rfl (rdR_one' (heap_alloc_new _ _)) (fun _ => ⟨rfl, enC_one _⟩) (by have := Hk1.out.2.2; omega) (fun v2 w2 ho2 hb2 hs2 => ⟨trivial, ?_⟩)
      simp only [Act.put, List.setIfInBounds_toArray, List.set_cons_zero, List.set_cons_succ]
      have HO2 := Lib.hid ho2
      have HB2 := Lib.hid hb2
      clear ho2 hb2 hs2
      refine takeY (i := 27) (some 4) (v := v2) rfl rfl (by kernel_rfl) (by kernel_rfl) (by kernel_rfl) (fun _ _ _ h => h) (by rfl) (fun w' hS => by go_simp) trivial ?_
      simp only [Act.put, List.setIfInBounds_toArray, List.set_cons_zero, List.set_cons_succ]
      refine wpAnyH_done (by kernel_rfl) ?_ _
      have HOF : Hid (w2.ownsRow w.heap.size 96 11 v2 (k + 1) (cellsR (nC z) (k + 1))) := Lib.hid (by have h := HO2.out; rw [← HnC.out, HCell.out] at h; exact h)
      go_wp2_with fail
      go_roundw
      case rel => first | exact ⟨k + 1, P + 16, Hk1.out.1, by go_num, Lib.hid Hk1.out.2.1, HOF, HB2⟩ | exact ⟨_, _, ⟨k + 1, P + 16, Hk1.out.1, by go_num, Lib.hid Hk1.out.2.1, HOF, HB2⟩, rfl, rfl⟩ | exact ⟨_, _, _, ⟨k + 1, P + 16, Hk1.out.1, by go_num, Lib.hid Hk1.out.2.1, HOF, HB2⟩, rfl, rfl, rfl⟩ | ((repeat apply Exists.intro); exact ⟨⟨k + 1, P + 16, Hk1.out.1, by go_num, Lib.hid Hk1.out.2.1, HOF, HB2⟩, rfl⟩)
      case measure => first | (simp only [intOf]; omega) | (simp [intOf]; omega)
end Go.Proofs.Ytigkmcbkckfhbaa
