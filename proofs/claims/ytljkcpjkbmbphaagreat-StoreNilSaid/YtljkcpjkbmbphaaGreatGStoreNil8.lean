/- Texts of this claim put together; each theorem states its conditions. -/
import Derived.Test.YtljkcpjkbmbphaaGreatGStoreNil7
import Derived.Test.YtljkcpjkbmbphaaGreatGStoreNil3
import Derived.Deep.DeepCutAuto
import Derived.Deep.Slices
import Derived.OpenShut
import Derived.ProofKit
import Derived.SizedLaws
/- The document's DocRead: what it answers, for all bytes. Each theorem states its conditions. -/
namespace Go.Proofs.YtljkcpjkbmbphaaGreat
open Go.RowKit
set_option linter.unusedVariables false

set_option maxHeartbeats 40000000 in
set_option maxRecDepth 100000 in
theorem dr_main (b off n c : Nat) (z : Nat → Int) (w : World) (hr : Row8 w b off n z) (hc : n ≤ c) (hcm : c ≤ maxLen) (hn2 : n ≤ 1492) (h8 : 8 ≤ n) (q : Nat) (hk : cls (z 4) = q) (hq : q ≤ 4) (hh : hdN q ≤ n) (m : Nat) (hm : Ends (tlZ q z) (n - hdN q) m) :
    Calls Tryz.prog 47 #[.slice (some ⟨b, off, none⟩) n c] w (DrP w q z n m) := by
  obtain ⟨W1, hW1⟩ : ∃ W1, w.alloc (.cells (pdC pd0) 39) = W1 := ⟨_, rfl⟩
  obtain ⟨X, hX⟩ : ∃ X, w.heap.size = X := ⟨_, rfl⟩
  have HX1 : Hid (PdT 39 W1 X pd0) := Lib.hid (by rw [← hW1, ← hX]; exact heap_alloc_new w _)
  have HB1 : Hid (Below w.heap.size w W1) := Lib.hid (by rw [← hW1]; exact (bself w).alloc (Nat.le_refl _) _)
  have HW1 := Lib.hid hW1
  have HXW := Lib.hid hX
  have hXle : w.heap.size ≤ X := by omega
  have fl1 : decide ((1492 : Int) < (n : Int)) = false := by simp; omega
  clear hW1 hX
  have hcm2 : c ≤ 9223372036854775807 := by unfold maxLen at hcm; omega
  have fl8 : decide ((n : Int) < 8) = false := by simp; omega
  have c4 : W1.cell? ⟨b, off + 4, none⟩ = some (.int .u8 (z 4)) := by rw [← hr.2.1 4 (by omega)]; exact HB1.out.cell hr.1
  have HH := Lib.hid (refHead_any (z 4) q hk hq)
  have h4n : (4 : Int) < (n : Int) := by omega
  have h17 := hdN_bd q hq
  have HM := Lib.hid hm
  have hbw : b < w.heap.size := hr.1
  have HR1 : Hid (Row8 W1 b off n z) := Lib.hid (row_keep hr (HB1.out.block _ hr.1))
  have HKQ := Lib.hid (And.intro hk hq)
  obtain ⟨H, hH⟩ : ∃ H, hdN q = H := ⟨_, rfl⟩
  have HHQ := Lib.hid hH
  rw [hH] at HH hh h17 HM
  have fH : ((H : Int) == 0) = false := by simp; omega
  have fl9 : decide ((n : Int) < (H : Int)) = false := by simp; omega
  obtain ⟨P, hP⟩ : ∃ P, W1.heap.size = P := ⟨_, rfl⟩
  obtain ⟨W2, hW2⟩ : ∃ W2, W1.alloc (.cells (pdC pd0) 39) = W2 := ⟨_, rfl⟩
  have HM2 : Hid (PdT 39 W2 P pd0) := Lib.hid (by rw [← hW2, ← hP]; exact heap_alloc_new W1 _)
  have HB2 : Hid (Below P W1 W2) := Lib.hid (by rw [← hW2, ← hP]; exact (bself W1).alloc (Nat.le_refl _) _)
  have HP := Lib.hid hP
  have HW2 := Lib.hid hW2
  have hXP : X < P := by rw [← hP]; exact HX1.out.lt
  have hpz : W2.heap.size = P + 1 := by rw [← hW2, ← hP]; simp
  clear hr hk hH hm hq hP hW2
  go_enter Tryz.func47, Tryz.ntmps47
  go_wp2_with (refine wpList_v (op := ⟨some 2, _, _, _, _, _⟩) rfl _ (alloc_R' _ _ rfl w W1 X HXW.out HW1.out) ?_)
  refine (HH.out _).mono ?_
  rintro e wx ⟨rfl, rfl⟩
  go_wp2_with fail
  refine (HH.out _).mono ?_
  rintro e wx ⟨rfl, rfl⟩
  go_wp2_with (first
    | (refine wpList_v (op := ⟨some 36, _, _, _, _, _⟩) rfl _ (build_1d _ _ (.tmp 35) rfl (z 4) rfl _) ?_)
    | (refine wpList_v (op := ⟨some 4, _, _, _, _, _⟩) rfl _ (alloc_R' _ _ rfl W1 W2 P HP.out HW2.out) ?_)
    | (refine wpList_st rfl 39 (.tmp 4) (.tmp 36) rfl P 0 rfl (.agg (pdC (kdP (z 4)))) (pdC (kdP (z 4))) rfl rfl info_pdR (pdC_one _) HM2.out (Nat.le_of_ble_eq_true rfl) (pd_all _ _) ?_; intro w3 hst3; refine Hid.out ?_))
  refine Lib.hid ?_
  have hb13 : Below P W1 w3 := HB2.out.trans (hst3.2.1 P (Nat.le_refl _))
  have HD3 : Hid (PdT 39 w3 P (kdP (z 4))) := Lib.hid hst3.1
  have HX3 : Hid (PdT 39 w3 X pd0) := Lib.hid ((hb13.block _ hXP).trans HX1.out)
  have HR3 : Hid (Row8 w3 b off n z) := Lib.hid (row_keep HR1.out (hb13.block _ (by omega)))
  have HB3 : Hid (Below w.heap.size w w3) := Lib.hid (HB1.out.trans (hb13.mono (by omega)))
  have hP3 : P < w3.heap.size := HD3.out.lt
  have c0 : w3.cell? ⟨P, 0, none⟩ = some (.int .u8 (z 4)) := (HD3.out.cell 0).trans (pdC_0 _)
  clear hst3 hb13 HM2 HB2 HX1 HR1 HB1 c4 HW2 HP HW1 HXW
  go_wp2_with fail
  refine (HH.out _).mono ?_
  rintro e wx ⟨rfl, rfl⟩
  obtain ⟨AS, hAS⟩ : ∃ AS, (if c = H then some ⟨b, off, none⟩ else some ⟨b, off + H, none⟩ : Option Addr) = AS := ⟨_, rfl⟩
  have HSL := Lib.hid (run_from w3 b off n c H hh hc hcm2)
  have HRS : Hid (Rd w3 AS (n - H) (tlZ q z)) := Lib.hid (by rw [← hAS]; unfold tlZ; rw [HHQ.out]; exact rd_from HR3.out hh hc)
  have hASn : AS ≠ none := by rw [← hAS]; split <;> simp
  rw [hAS] at HSL
  clear hAS
  go_wp2_with (refine wpList_v (op := ⟨some 42, _, _, _, _, _⟩) rfl _ (slice_op _ _ (.tmp 38) (.tmp 41) rfl _ _ rfl rfl _ HSL.out) ?_)
  refine (docsplit_any AS (n - H) (c - H) m (tlZ q z) w3 HRS.out (fun h => absurd h hASn) (by omega) (by omega) (by omega) HM.out).mono ?_
  rintro e w4 (⟨hps, v4, L, rfl, hoT, hI, hb⟩ | ⟨hps, rfl, hb⟩)
  rotate_left
  · have HX4 := Lib.hid (HX3.out.below hb HX3.out.lt)
    have HB4 := Lib.hid (HB3.out.trans (hb.mono HB3.out.size))
    have HPS := Lib.hid hps
    clear hb hps HX3 HB3 HD3 HR3 c0
    go_wp2_with (first
      | (refine wpList_v (op := ⟨some 48, _, _, _, _, _⟩) rfl _ (build_0d _ _ rfl _) ?_)
      | (refine wpList_st rfl 39 (.tmp 2) (.tmp 48) rfl X 0 rfl (.agg (pdC pd0)) (pdC pd0) rfl rfl info_pdR (pdC_one _) HX4.out (Nat.le_of_ble_eq_true rfl) (pd_all _ _) ?_; intro w2 hst2; refine Hid.out ?_))
    refine Lib.hid ?_
    have HX2 : Hid (PdT 39 w2 X pd0) := Lib.hid hst2.1
    have HB2 : Hid (Below w.heap.size w w2) := Lib.hid (HB4.out.trans (hst2.2.1 _ hXle))
    clear hst2
    go_wp2_with fail
    refine bodyPost_ret (results_dr rfl _ w2 X pd0 (.int .i64 3) rfl HX2.out rfl) rfl (.inl ⟨fun h => HPS.out (by rw [← HHQ.out]; exact h.1), rfl, HB2.out⟩)
  obtain ⟨A, cL, rfl, hmc, hcL, hAn, hRT⟩ := hoT.shape
  have HD4 : Hid (DrS w P X b off n z w3.heap.size A m cL L (kdP (z 4)) w4) := Lib.hid ⟨HD3.out.below hb HD3.out.lt, HX3.out.below hb HX3.out.lt, row_keep HR3.out (hb.block _ HR3.out.1), HB3.out.trans (hb.mono HB3.out.size), hoT, hXP, hXle, hbw, hP3, hb.size⟩
  obtain ⟨B, hB⟩ : ∃ B, w3.heap.size = B := ⟨_, rfl⟩
  rw [hB] at HD4
  have HPS := Lib.hid hps
  have HI := Lib.hid hI
  have HAN := Lib.hid (And.intro hAn (And.intro hmc hcL))
  have HWB : w.heap.size ≤ B := by rw [← hB]; exact HB3.out.size
  clear hb hps hI hAn hmc hcL hoT hRT HD3 HX3 HR3 HB3 c0 hP3 HRS HSL hB
  have f30 : ((0 : Int) != 0) = false := rfl
  go_wp2_with (refine wpList_st rfl 37 (.tmp 50) (.tmp 49) rfl P 46 rfl (.slice A m cL) #[.slice A m cL] rfl rfl (by kernel_rfl) (by kernel_rfl) HD4.out.1 (Nat.le_of_ble_eq_true rfl) (C' := pdC (withT (kdP (z 4)) A m cL)) (by kernel_rfl) ?_; intro wq hst5; refine Hid.out ?_)
  refine Lib.hid ?_
  have HD := Lib.hid (HD4.out.put hst5)
  clear hst5 HD4
  have c0 : wq.cell? ⟨P, 0, none⟩ = some (.int .u8 (z 4)) := (HD.out.1.cell 0).trans (pdC_0 _)
  go_upto_block 0 with fail
  go_cut [] (fun wc => Hid (DrS w P X b off n z B A m cL L (swP q z A m cL) wc))
  case first =>
    clear c0 HH HM HI HPS HAN fl1 fl8 fl9 fH f30
    obtain ⟨hk, hq⟩ := HKQ.out
    have hhq := HHQ.out
    clear HKQ HHQ
    rcases cls_cases (z 4) q hk hq with ⟨hk4, rfl⟩ | ⟨hk4, rfl⟩ | ⟨hk4, rfl⟩ | ⟨hk4, rfl⟩ | ⟨hk4, rfl⟩ | ⟨hk4, rfl⟩ | ⟨hk4, rfl⟩ | ⟨hk4, rfl⟩ | ⟨hk4, rfl⟩
    · as_aux_lemma =>
      clear hk hq
      have f15 : (z 4 == 15) = false := by rw [hk4]; rfl
      have f16 : (z 4 == 16) = false := by rw [hk4]; rfl
      have f17 : (z 4 == 17) = true := by rw [hk4]; rfl
      have f18 : (z 4 == 18) = false := by rw [hk4]; rfl
      have f20 : (z 4 == 20) = false := by rw [hk4]; rfl
      have f24 : (z 4 == 24) = false := by rw [hk4]; rfl
      have f25 : (z 4 == 25) = false := by rw [hk4]; rfl
      clear hk4
      have hHn : 20 ≤ n := by have : hdN 0 = 20 := rfl; omega
      clear hhq hh h17
      go_wp2_with fail
      have HDd := Lib.hid (HD.out.below (bself wq).drew)
      refine wp_region_held_drew (S := fun w' => Row8 w' b off n z) (by kernel_rfl) HDd.out.2.2.1 (fun hS => ?_)
      generalize hWq : wq.drew = Wq at hS HDd ⊢
      clear hWq HD
      have HD := HDd
      clear HDd
      refine takeY (i := 0) (some 78) (v := .slice (some ⟨b, off, none⟩) n c) rfl rfl (by kernel_rfl) (by kernel_rfl) (by kernel_rfl) (fun _ _ _ h => h) (by rfl) (fun w' hS => by go_simp) hS ?_
      simp only [Act.put, List.setIfInBounds_toArray, List.set_cons_zero, List.set_cons_succ]
      refine takeY (i := 1) (some 79) (v := .pointer (some ⟨b, off + 8, none⟩)) rfl rfl (by kernel_rfl) (by kernel_rfl) (by kernel_rfl) (fun _ _ _ h => h) (by rfl) (fun w' hS => by (have hx : (8 : Int) < (n : Int) := (by omega); clear hS; go_simp)) hS ?_
      simp only [Act.put, List.setIfInBounds_toArray, List.set_cons_zero, List.set_cons_succ]
      refine takeY (i := 2) (some 80) (v := .int .u8 (z 8)) rfl rfl (by kernel_rfl) (by kernel_rfl) (by kernel_rfl) (fun _ _ _ h => h) (by rfl) (fun w' hS => by (have c9 : w'.cell? ⟨b, off + 8, none⟩ = some (.int .u8 (z 8))   := (hS.2.1 8 (by omega)); clear hS; go_simp)) hS ?_
      simp only [Act.put, List.setIfInBounds_toArray, List.set_cons_zero, List.set_cons_succ]
      refine takeY (i := 3) (some 81) (v := .slice (some ⟨b, off, none⟩) n c) rfl rfl (by kernel_rfl) (by kernel_rfl) (by kernel_rfl) (fun _ _ _ h => h) (by rfl) (fun w' hS => by go_simp) hS ?_
      simp only [Act.put, List.setIfInBounds_toArray, List.set_cons_zero, List.set_cons_succ]
      refine takeY (i := 4) (some 82) (v := .slice (some ⟨b, off + 15, none⟩) (n - 15) (c - 15)) rfl rfl (by kernel_rfl) (by kernel_rfl) (by kernel_rfl) (fun _ _ _ h => h) (by rfl) (fun w' hS => by exact slice_in _ _ _ (.tmp 81) b off n c 15 15 rfl rfl rfl rfl (by omega) hc (by omega)) hS ?_
      simp only [Act.put, List.setIfInBounds_toArray, List.set_cons_zero, List.set_cons_succ]
      refine takeY (i := 6) (some 84) (v := .slice (some ⟨b, off, none⟩) n c) rfl rfl (by kernel_rfl) (by kernel_rfl) (by kernel_rfl) (fun _ _ _ h => h) (by rfl) (fun w' hS => by go_simp) hS ?_
      simp only [Act.put, List.setIfInBounds_toArray, List.set_cons_zero, List.set_cons_succ]
      refine takeY (i := 7) (some 85) (v := .pointer (some ⟨b, off + 19, none⟩)) rfl rfl (by kernel_rfl) (by kernel_rfl) (by kernel_rfl) (fun _ _ _ h => h) (by rfl) (fun w' hS => by (have hx : (19 : Int) < (n : Int) := (by omega); clear hS; go_simp)) hS ?_
      simp only [Act.put, List.setIfInBounds_toArray, List.set_cons_zero, List.set_cons_succ]
      refine takeY (i := 8) (some 86) (v := .int .u8 (z 19)) rfl rfl (by kernel_rfl) (by kernel_rfl) (by kernel_rfl) (fun _ _ _ h => h) (by rfl) (fun w' hS => by (have c9 : w'.cell? ⟨b, off + 19, none⟩ = some (.int .u8 (z 19))   := (hS.2.1 19 (by omega)); clear hS; go_simp)) hS ?_
      simp only [Act.put, List.setIfInBounds_toArray, List.set_cons_zero, List.set_cons_succ]
      refine takeY (i := 9) (some 87) (v := .pointer (some ⟨P, 1, none⟩)) rfl rfl (by kernel_rfl) (by kernel_rfl) (by kernel_rfl) (fun _ _ _ h => h) (by rfl) (fun w' hS => by go_simp) hS ?_
      simp only [Act.put, List.setIfInBounds_toArray, List.set_cons_zero, List.set_cons_succ]
      refine takeC (i := 5) (some 83) 70 #[.slice (some ⟨b, off + 15, none⟩) (n - 15) (c - 15)] (.int .i64 (((numZ (fun j => z (15 + j)) 0 2).toNat : Nat) : Int)) (R := fun w' => Below Wq.heap.size Wq w') rfl rfl (by kernel_rfl) (by rfl) (by go_simp) (number_two b (off + 15) (n - 15) (c - 15) (fun j => z (15 + j)) Wq (hS.shift 15 _ (by omega)) (by omega)) (fun w' hb => row_keep hS (hb.block _ hS.1)) (fun Wn hb1 hS2 => ?_)
      simp only [Act.put, List.setIfInBounds_toArray, List.set_cons_zero, List.set_cons_succ]
      have HDn := Lib.hid (HD.out.below hb1)
      clear HD hS hb1
      have HD := HDn
      have hS := hS2
      clear HDn hS2
      revert hS HD
      generalize Wn = Wq
      intro HD hS
      refine takeSt (i := 10) 5 (.tmp 87) (.tmp 80) P 1 (.int .u8 (z (8 + 0))) #[.int .u8 (z (8 + 0))] (pdC (drSet_ci (withT (kdP (z 4)) A m cL) (z (8 + 0)))) rfl rfl (by kernel_rfl) (by rfl) rfl rfl rfl rfl (by kernel_rfl) (by kernel_rfl) HD.out.1 (Nat.le_of_ble_eq_true rfl) (drPut_ci _ _) (fun Wn q1 => ⟨row_keep hS (q1.2.2 _ (by have := HD.out.2.2.2.2.2; omega)), ?_⟩)
      simp only [Act.put, List.setIfInBounds_toArray, List.set_cons_zero, List.set_cons_succ]
      have hSn := row_keep hS (q1.2.2 _ (by have := HD.out.2.2.2.2.2; omega))
      have HDn := Lib.hid (HD.out.put (y := (drSet_ci (withT (kdP (z 4)) A m cL) (z (8 + 0)))) q1)
      clear HD hS q1
      have HD := HDn
      have hS := hSn
      clear HDn hSn
      revert hS HD
      generalize Wn = Wq
      intro HD hS
      refine takeY (i := 11) (some 88) (v := .pointer (some ⟨P, 9, none⟩)) rfl rfl (by kernel_rfl) (by kernel_rfl) (by kernel_rfl) (fun _ _ _ h => h) (by rfl) (fun w' hS => by go_simp) hS ?_
      simp only [Act.put, List.setIfInBounds_toArray, List.set_cons_zero, List.set_cons_succ]
      refine takeSt (i := 12) 3 (.tmp 88) (.tmp 83) P 9 (.int .i64 ((((numZ (fun j => z (15 + j)) 0 2).toNat : Nat) : Int))) #[.int .i64 ((((numZ (fun j => z (15 + j)) 0 2).toNat : Nat) : Int))] (pdC (drSet_ho (drSet_ci (withT (kdP (z 4)) A m cL) (z (8 + 0))) ((((numZ (fun j => z (15 + j)) 0 2).toNat : Nat) : Int)))) rfl rfl (by kernel_rfl) (by rfl) rfl rfl rfl rfl (by kernel_rfl) (by kernel_rfl) HD.out.1 (Nat.le_of_ble_eq_true rfl) (drPut_ho _ _) (fun Wn q1 => ⟨row_keep hS (q1.2.2 _ (by have := HD.out.2.2.2.2.2; omega)), ?_⟩)
      simp only [Act.put, List.setIfInBounds_toArray, List.set_cons_zero, List.set_cons_succ]
      have hSn := row_keep hS (q1.2.2 _ (by have := HD.out.2.2.2.2.2; omega))
      have HDn := Lib.hid (HD.out.put (y := (drSet_ho (drSet_ci (withT (kdP (z 4)) A m cL) (z (8 + 0))) ((((numZ (fun j => z (15 + j)) 0 2).toNat : Nat) : Int)))) q1)
      clear HD hS q1
      have HD := HDn
      have hS := hSn
      clear HDn hSn
      revert hS HD
      generalize Wn = Wq
      intro HD hS
      refine takeY (i := 13) (some 89) (v := .pointer (some ⟨P, 10, none⟩)) rfl rfl (by kernel_rfl) (by kernel_rfl) (by kernel_rfl) (fun _ _ _ h => h) (by rfl) (fun w' hS => by go_simp) hS ?_
      simp only [Act.put, List.setIfInBounds_toArray, List.set_cons_zero, List.set_cons_succ]
      refine takeSt (i := 14) 5 (.tmp 89) (.tmp 86) P 10 (.int .u8 (z (19 + 0))) #[.int .u8 (z (19 + 0))] (pdC (drSet_nu (drSet_ho (drSet_ci (withT (kdP (z 4)) A m cL) (z (8 + 0))) ((((numZ (fun j => z (15 + j)) 0 2).toNat : Nat) : Int))) (z (19 + 0)))) rfl rfl (by kernel_rfl) (by rfl) rfl rfl rfl rfl (by kernel_rfl) (by kernel_rfl) HD.out.1 (Nat.le_of_ble_eq_true rfl) (drPut_nu _ _) (fun Wn q1 => ⟨row_keep hS (q1.2.2 _ (by have := HD.out.2.2.2.2.2; omega)), ?_⟩)
      simp only [Act.put, List.setIfInBounds_toArray, List.set_cons_zero, List.set_cons_succ]
      have hSn := row_keep hS (q1.2.2 _ (by have := HD.out.2.2.2.2.2; omega))
      have HDn := Lib.hid (HD.out.put (y := (drSet_nu (drSet_ho (drSet_ci (withT (kdP (z 4)) A m cL) (z (8 + 0))) ((((numZ (fun j => z (15 + j)) 0 2).toNat : Nat) : Int))) (z (19 + 0)))) q1)
      clear HD hS q1
      have HD := HDn
      have hS := hSn
      clear HDn hSn
      revert hS HD
      generalize Wn = Wq
      intro HD hS
      clear hS
      refine wpAnyH_done (by kernel_rfl) ?_ _
      go_wp2_with fail
      go_meet
      case rel => exact Lib.hid (HD.out.eq (swD_0 z A m cL))
    · as_aux_lemma =>
      clear hk hq
      have f15 : (z 4 == 15) = true := by rw [hk4]; rfl
      have f16 : (z 4 == 16) = false := by rw [hk4]; rfl
      have f17 : (z 4 == 17) = false := by rw [hk4]; rfl
      have f18 : (z 4 == 18) = false := by rw [hk4]; rfl
      have f20 : (z 4 == 20) = false := by rw [hk4]; rfl
      have f24 : (z 4 == 24) = false := by rw [hk4]; rfl
      have f25 : (z 4 == 25) = false := by rw [hk4]; rfl
      clear hk4
      have hHn : 27 ≤ n := by have : hdN 1 = 27 := rfl; omega
      clear hhq hh h17
      go_wp2_with fail
      have HDd := Lib.hid (HD.out.below (bself wq).drew)
      refine wp_region_held_drew (S := fun w' => Row8 w' b off n z) (by kernel_rfl) HDd.out.2.2.1 (fun hS => ?_)
      generalize hWq : wq.drew = Wq at hS HDd ⊢
      clear hWq HD
      have HD := HDd
      clear HDd
      refine takeY (i := 0) (some 60) (v := .slice (some ⟨b, off, none⟩) n c) rfl rfl (by kernel_rfl) (by kernel_rfl) (by kernel_rfl) (fun _ _ _ h => h) (by rfl) (fun w' hS => by go_simp) hS ?_
      simp only [Act.put, List.setIfInBounds_toArray, List.set_cons_zero, List.set_cons_succ]
      refine takeY (i := 1) (some 61) (v := .pointer (some ⟨b, off + 8, none⟩)) rfl rfl (by kernel_rfl) (by kernel_rfl) (by kernel_rfl) (fun _ _ _ h => h) (by rfl) (fun w' hS => by (have hx : (8 : Int) < (n : Int) := (by omega); clear hS; go_simp)) hS ?_
      simp only [Act.put, List.setIfInBounds_toArray, List.set_cons_zero, List.set_cons_succ]
      refine takeY (i := 2) (some 62) (v := .int .u8 (z 8)) rfl rfl (by kernel_rfl) (by kernel_rfl) (by kernel_rfl) (fun _ _ _ h => h) (by rfl) (fun w' hS => by (have c9 : w'.cell? ⟨b, off + 8, none⟩ = some (.int .u8 (z 8))   := (hS.2.1 8 (by omega)); clear hS; go_simp)) hS ?_
      simp only [Act.put, List.setIfInBounds_toArray, List.set_cons_zero, List.set_cons_succ]
      refine takeY (i := 3) (some 63) (v := .slice (some ⟨b, off, none⟩) n c) rfl rfl (by kernel_rfl) (by kernel_rfl) (by kernel_rfl) (fun _ _ _ h => h) (by rfl) (fun w' hS => by go_simp) hS ?_
      simp only [Act.put, List.setIfInBounds_toArray, List.set_cons_zero, List.set_cons_succ]
      refine takeY (i := 4) (some 64) (v := .slice (some ⟨b, off + 15, none⟩) (n - 15) (c - 15)) rfl rfl (by kernel_rfl) (by kernel_rfl) (by kernel_rfl) (fun _ _ _ h => h) (by rfl) (fun w' hS => by exact slice_in _ _ _ (.tmp 63) b off n c 15 15 rfl rfl rfl rfl (by omega) hc (by omega)) hS ?_
      simp only [Act.put, List.setIfInBounds_toArray, List.set_cons_zero, List.set_cons_succ]
      refine takeY (i := 6) (some 66) (v := .slice (some ⟨b, off, none⟩) n c) rfl rfl (by kernel_rfl) (by kernel_rfl) (by kernel_rfl) (fun _ _ _ h => h) (by rfl) (fun w' hS => by go_simp) hS ?_
      simp only [Act.put, List.setIfInBounds_toArray, List.set_cons_zero, List.set_cons_succ]
      refine takeY (i := 7) (some 67) (v := .pointer (some ⟨b, off + 19, none⟩)) rfl rfl (by kernel_rfl) (by kernel_rfl) (by kernel_rfl) (fun _ _ _ h => h) (by rfl) (fun w' hS => by (have hx : (19 : Int) < (n : Int) := (by omega); clear hS; go_simp)) hS ?_
      simp only [Act.put, List.setIfInBounds_toArray, List.set_cons_zero, List.set_cons_succ]
      refine takeY (i := 8) (some 68) (v := .int .u8 (z 19)) rfl rfl (by kernel_rfl) (by kernel_rfl) (by kernel_rfl) (fun _ _ _ h => h) (by rfl) (fun w' hS => by (have c9 : w'.cell? ⟨b, off + 19, none⟩ = some (.int .u8 (z 19))   := (hS.2.1 19 (by omega)); clear hS; go_simp)) hS ?_
      simp only [Act.put, List.setIfInBounds_toArray, List.set_cons_zero, List.set_cons_succ]
      refine takeY (i := 9) (some 69) (v := .slice (some ⟨b, off, none⟩) n c) rfl rfl (by kernel_rfl) (by kernel_rfl) (by kernel_rfl) (fun _ _ _ h => h) (by rfl) (fun w' hS => by go_simp) hS ?_
      simp only [Act.put, List.setIfInBounds_toArray, List.set_cons_zero, List.set_cons_succ]
      refine takeY (i := 10) (some 70) (v := .slice (some ⟨b, off + 20, none⟩) (n - 20) (c - 20)) rfl rfl (by kernel_rfl) (by kernel_rfl) (by kernel_rfl) (fun _ _ _ h => h) (by rfl) (fun w' hS => by exact slice_in _ _ _ (.tmp 69) b off n c 20 20 rfl rfl rfl rfl (by omega) hc (by omega)) hS ?_
      simp only [Act.put, List.setIfInBounds_toArray, List.set_cons_zero, List.set_cons_succ]
      refine takeY (i := 12) (some 72) (v := .pointer (some ⟨P, 1, none⟩)) rfl rfl (by kernel_rfl) (by kernel_rfl) (by kernel_rfl) (fun _ _ _ h => h) (by rfl) (fun w' hS => by go_simp) hS ?_
      simp only [Act.put, List.setIfInBounds_toArray, List.set_cons_zero, List.set_cons_succ]
      refine takeC (i := 5) (some 65) 70 #[.slice (some ⟨b, off + 15, none⟩) (n - 15) (c - 15)] (.int .i64 (((numZ (fun j => z (15 + j)) 0 2).toNat : Nat) : Int)) (R := fun w' => Below Wq.heap.size Wq w') rfl rfl (by kernel_rfl) (by rfl) (by go_simp) (number_two b (off + 15) (n - 15) (c - 15) (fun j => z (15 + j)) Wq (hS.shift 15 _ (by omega)) (by omega)) (fun w' hb => row_keep hS (hb.block _ hS.1)) (fun Wn hb1 hS2 => ?_)
      simp only [Act.put, List.setIfInBounds_toArray, List.set_cons_zero, List.set_cons_succ]
      have HDn := Lib.hid (HD.out.below hb1)
      clear HD hS hb1
      have HD := HDn
      have hS := hS2
      clear HDn hS2
      revert hS HD
      generalize Wn = Wq
      intro HD hS
      refine takeC (i := 11) (some 71) 71 #[.slice (some ⟨b, off + 20, none⟩) (n - 20) (c - 20)] (.agg (ndC (fun j => z (20 + j)))) (R := fun w' => Below Wq.heap.size Wq w') rfl rfl (by kernel_rfl) (by rfl) (by go_simp) (nodeAt_any b (off + 20) (n - 20) (c - 20) (fun j => z (20 + j)) Wq (hS.shift 20 _ (by omega)) (by omega) (by omega)) (fun w' hb => row_keep hS (hb.block _ hS.1)) (fun Wn hb1 hS2 => ?_)
      simp only [Act.put, List.setIfInBounds_toArray, List.set_cons_zero, List.set_cons_succ]
      have HDn := Lib.hid (HD.out.below hb1)
      clear HD hS hb1
      have HD := HDn
      have hS := hS2
      clear HDn hS2
      revert hS HD
      generalize Wn = Wq
      intro HD hS
      refine takeSt (i := 13) 5 (.tmp 72) (.tmp 62) P 1 (.int .u8 (z (8 + 0))) #[.int .u8 (z (8 + 0))] (pdC (drSet_ci (withT (kdP (z 4)) A m cL) (z (8 + 0)))) rfl rfl (by kernel_rfl) (by rfl) rfl rfl rfl rfl (by kernel_rfl) (by kernel_rfl) HD.out.1 (Nat.le_of_ble_eq_true rfl) (drPut_ci _ _) (fun Wn q1 => ⟨row_keep hS (q1.2.2 _ (by have := HD.out.2.2.2.2.2; omega)), ?_⟩)
      simp only [Act.put, List.setIfInBounds_toArray, List.set_cons_zero, List.set_cons_succ]
      have hSn := row_keep hS (q1.2.2 _ (by have := HD.out.2.2.2.2.2; omega))
      have HDn := Lib.hid (HD.out.put (y := (drSet_ci (withT (kdP (z 4)) A m cL) (z (8 + 0)))) q1)
      clear HD hS q1
      have HD := HDn
      have hS := hSn
      clear HDn hSn
      revert hS HD
      generalize Wn = Wq
      intro HD hS
      refine takeY (i := 14) (some 73) (v := .pointer (some ⟨P, 9, none⟩)) rfl rfl (by kernel_rfl) (by kernel_rfl) (by kernel_rfl) (fun _ _ _ h => h) (by rfl) (fun w' hS => by go_simp) hS ?_
      simp only [Act.put, List.setIfInBounds_toArray, List.set_cons_zero, List.set_cons_succ]
      refine takeSt (i := 15) 3 (.tmp 73) (.tmp 65) P 9 (.int .i64 ((((numZ (fun j => z (15 + j)) 0 2).toNat : Nat) : Int))) #[.int .i64 ((((numZ (fun j => z (15 + j)) 0 2).toNat : Nat) : Int))] (pdC (drSet_ho (drSet_ci (withT (kdP (z 4)) A m cL) (z (8 + 0))) ((((numZ (fun j => z (15 + j)) 0 2).toNat : Nat) : Int)))) rfl rfl (by kernel_rfl) (by rfl) rfl rfl rfl rfl (by kernel_rfl) (by kernel_rfl) HD.out.1 (Nat.le_of_ble_eq_true rfl) (drPut_ho _ _) (fun Wn q1 => ⟨row_keep hS (q1.2.2 _ (by have := HD.out.2.2.2.2.2; omega)), ?_⟩)
      simp only [Act.put, List.setIfInBounds_toArray, List.set_cons_zero, List.set_cons_succ]
      have hSn := row_keep hS (q1.2.2 _ (by have := HD.out.2.2.2.2.2; omega))
      have HDn := Lib.hid (HD.out.put (y := (drSet_ho (drSet_ci (withT (kdP (z 4)) A m cL) (z (8 + 0))) ((((numZ (fun j => z (15 + j)) 0 2).toNat : Nat) : Int)))) q1)
      clear HD hS q1
      have HD := HDn
      have hS := hSn
      clear HDn hSn
      revert hS HD
      generalize Wn = Wq
      intro HD hS
      refine takeY (i := 16) (some 74) (v := .pointer (some ⟨P, 11, none⟩)) rfl rfl (by kernel_rfl) (by kernel_rfl) (by kernel_rfl) (fun _ _ _ h => h) (by rfl) (fun w' hS => by go_simp) hS ?_
      simp only [Act.put, List.setIfInBounds_toArray, List.set_cons_zero, List.set_cons_succ]
      refine takeSt (i := 17) 5 (.tmp 74) (.tmp 68) P 11 (.int .u8 (z (19 + 0))) #[.int .u8 (z (19 + 0))] (pdC (drSet_pr (drSet_ho (drSet_ci (withT (kdP (z 4)) A m cL) (z (8 + 0))) ((((numZ (fun j => z (15 + j)) 0 2).toNat : Nat) : Int))) (z (19 + 0)))) rfl rfl (by kernel_rfl) (by rfl) rfl rfl rfl rfl (by kernel_rfl) (by kernel_rfl) HD.out.1 (Nat.le_of_ble_eq_true rfl) (drPut_pr _ _) (fun Wn q1 => ⟨row_keep hS (q1.2.2 _ (by have := HD.out.2.2.2.2.2; omega)), ?_⟩)
      simp only [Act.put, List.setIfInBounds_toArray, List.set_cons_zero, List.set_cons_succ]
      have hSn := row_keep hS (q1.2.2 _ (by have := HD.out.2.2.2.2.2; omega))
      have HDn := Lib.hid (HD.out.put (y := (drSet_pr (drSet_ho (drSet_ci (withT (kdP (z 4)) A m cL) (z (8 + 0))) ((((numZ (fun j => z (15 + j)) 0 2).toNat : Nat) : Int))) (z (19 + 0)))) q1)
      clear HD hS q1
      have HD := HDn
      have hS := hSn
      clear HDn hSn
      revert hS HD
      generalize Wn = Wq
      intro HD hS
      refine takeY (i := 18) (some 75) (v := .pointer (some ⟨P, 12, none⟩)) rfl rfl (by kernel_rfl) (by kernel_rfl) (by kernel_rfl) (fun _ _ _ h => h) (by rfl) (fun w' hS => by go_simp) hS ?_
      simp only [Act.put, List.setIfInBounds_toArray, List.set_cons_zero, List.set_cons_succ]
      refine takeSt (i := 19) 33 (.tmp 75) (.tmp 71) P 12 (.agg (ndC (fun j => z (20 + j)))) (ndC (fun j => z (20 + j))) (pdC (drSet_la (drSet_pr (drSet_ho (drSet_ci (withT (kdP (z 4)) A m cL) (z (8 + 0))) ((((numZ (fun j => z (15 + j)) 0 2).toNat : Nat) : Int))) (z (19 + 0))) ((fun j => z (20 + j))))) rfl rfl (by kernel_rfl) (by rfl) rfl rfl rfl rfl info_node (nd_all _) HD.out.1 (Nat.le_of_ble_eq_true rfl) (drPut_la _ _) (fun Wn q1 => ⟨row_keep hS (q1.2.2 _ (by have := HD.out.2.2.2.2.2; omega)), ?_⟩)
      simp only [Act.put, List.setIfInBounds_toArray, List.set_cons_zero, List.set_cons_succ]
      have hSn := row_keep hS (q1.2.2 _ (by have := HD.out.2.2.2.2.2; omega))
      have HDn := Lib.hid (HD.out.put (y := (drSet_la (drSet_pr (drSet_ho (drSet_ci (withT (kdP (z 4)) A m cL) (z (8 + 0))) ((((numZ (fun j => z (15 + j)) 0 2).toNat : Nat) : Int))) (z (19 + 0))) ((fun j => z (20 + j))))) q1)
      clear HD hS q1
      have HD := HDn
      have hS := hSn
      clear HDn hSn
      revert hS HD
      generalize Wn = Wq
      intro HD hS
      clear hS
      refine wpAnyH_done (by kernel_rfl) ?_ _
      go_wp2_with fail
      go_meet
      case rel => exact Lib.hid (HD.out.eq (swD_1 z A m cL))
    · as_aux_lemma =>
      clear hk hq
      have f15 : (z 4 == 15) = false := by rw [hk4]; rfl
      have f16 : (z 4 == 16) = true := by rw [hk4]; rfl
      have f17 : (z 4 == 17) = false := by rw [hk4]; rfl
      have f18 : (z 4 == 18) = false := by rw [hk4]; rfl
      have f20 : (z 4 == 20) = false := by rw [hk4]; rfl
      have f24 : (z 4 == 24) = false := by rw [hk4]; rfl
      have f25 : (z 4 == 25) = false := by rw [hk4]; rfl
      clear hk4
      have hHn : 27 ≤ n := by have : hdN 1 = 27 := rfl; omega
      clear hhq hh h17
      go_wp2_with fail
      have HDd := Lib.hid (HD.out.below (bself wq).drew)
      refine wp_region_held_drew (S := fun w' => Row8 w' b off n z) (by kernel_rfl) HDd.out.2.2.1 (fun hS => ?_)
      generalize hWq : wq.drew = Wq at hS HDd ⊢
      clear hWq HD
      have HD := HDd
      clear HDd
      refine takeY (i := 0) (some 60) (v := .slice (some ⟨b, off, none⟩) n c) rfl rfl (by kernel_rfl) (by kernel_rfl) (by kernel_rfl) (fun _ _ _ h => h) (by rfl) (fun w' hS => by go_simp) hS ?_
      simp only [Act.put, List.setIfInBounds_toArray, List.set_cons_zero, List.set_cons_succ]
      refine takeY (i := 1) (some 61) (v := .pointer (some ⟨b, off + 8, none⟩)) rfl rfl (by kernel_rfl) (by kernel_rfl) (by kernel_rfl) (fun _ _ _ h => h) (by rfl) (fun w' hS => by (have hx : (8 : Int) < (n : Int) := (by omega); clear hS; go_simp)) hS ?_
      simp only [Act.put, List.setIfInBounds_toArray, List.set_cons_zero, List.set_cons_succ]
      refine takeY (i := 2) (some 62) (v := .int .u8 (z 8)) rfl rfl (by kernel_rfl) (by kernel_rfl) (by kernel_rfl) (fun _ _ _ h => h) (by rfl) (fun w' hS => by (have c9 : w'.cell? ⟨b, off + 8, none⟩ = some (.int .u8 (z 8))   := (hS.2.1 8 (by omega)); clear hS; go_simp)) hS ?_
      simp only [Act.put, List.setIfInBounds_toArray, List.set_cons_zero, List.set_cons_succ]
      refine takeY (i := 3) (some 63) (v := .slice (some ⟨b, off, none⟩) n c) rfl rfl (by kernel_rfl) (by kernel_rfl) (by kernel_rfl) (fun _ _ _ h => h) (by rfl) (fun w' hS => by go_simp) hS ?_
      simp only [Act.put, List.setIfInBounds_toArray, List.set_cons_zero, List.set_cons_succ]
      refine takeY (i := 4) (some 64) (v := .slice (some ⟨b, off + 15, none⟩) (n - 15) (c - 15)) rfl rfl (by kernel_rfl) (by kernel_rfl) (by kernel_rfl) (fun _ _ _ h => h) (by rfl) (fun w' hS => by exact slice_in _ _ _ (.tmp 63) b off n c 15 15 rfl rfl rfl rfl (by omega) hc (by omega)) hS ?_
      simp only [Act.put, List.setIfInBounds_toArray, List.set_cons_zero, List.set_cons_succ]
      refine takeY (i := 6) (some 66) (v := .slice (some ⟨b, off, none⟩) n c) rfl rfl (by kernel_rfl) (by kernel_rfl) (by kernel_rfl) (fun _ _ _ h => h) (by rfl) (fun w' hS => by go_simp) hS ?_
      simp only [Act.put, List.setIfInBounds_toArray, List.set_cons_zero, List.set_cons_succ]
      refine takeY (i := 7) (some 67) (v := .pointer (some ⟨b, off + 19, none⟩)) rfl rfl (by kernel_rfl) (by kernel_rfl) (by kernel_rfl) (fun _ _ _ h => h) (by rfl) (fun w' hS => by (have hx : (19 : Int) < (n : Int) := (by omega); clear hS; go_simp)) hS ?_
      simp only [Act.put, List.setIfInBounds_toArray, List.set_cons_zero, List.set_cons_succ]
      refine takeY (i := 8) (some 68) (v := .int .u8 (z 19)) rfl rfl (by kernel_rfl) (by kernel_rfl) (by kernel_rfl) (fun _ _ _ h => h) (by rfl) (fun w' hS => by (have c9 : w'.cell? ⟨b, off + 19, none⟩ = some (.int .u8 (z 19))   := (hS.2.1 19 (by omega)); clear hS; go_simp)) hS ?_
      simp only [Act.put, List.setIfInBounds_toArray, List.set_cons_zero, List.set_cons_succ]
      refine takeY (i := 9) (some 69) (v := .slice (some ⟨b, off, none⟩) n c) rfl rfl (by kernel_rfl) (by kernel_rfl) (by kernel_rfl) (fun _ _ _ h => h) (by rfl) (fun w' hS => by go_simp) hS ?_
      simp only [Act.put, List.setIfInBounds_toArray, List.set_cons_zero, List.set_cons_succ]
      refine takeY (i := 10) (some 70) (v := .slice (some ⟨b, off + 20, none⟩) (n - 20) (c - 20)) rfl rfl (by kernel_rfl) (by kernel_rfl) (by kernel_rfl) (fun _ _ _ h => h) (by rfl) (fun w' hS => by exact slice_in _ _ _ (.tmp 69) b off n c 20 20 rfl rfl rfl rfl (by omega) hc (by omega)) hS ?_
      simp only [Act.put, List.setIfInBounds_toArray, List.set_cons_zero, List.set_cons_succ]
      refine takeY (i := 12) (some 72) (v := .pointer (some ⟨P, 1, none⟩)) rfl rfl (by kernel_rfl) (by kernel_rfl) (by kernel_rfl) (fun _ _ _ h => h) (by rfl) (fun w' hS => by go_simp) hS ?_
      simp only [Act.put, List.setIfInBounds_toArray, List.set_cons_zero, List.set_cons_succ]
      refine takeC (i := 5) (some 65) 70 #[.slice (some ⟨b, off + 15, none⟩) (n - 15) (c - 15)] (.int .i64 (((numZ (fun j => z (15 + j)) 0 2).toNat : Nat) : Int)) (R := fun w' => Below Wq.heap.size Wq w') rfl rfl (by kernel_rfl) (by rfl) (by go_simp) (number_two b (off + 15) (n - 15) (c - 15) (fun j => z (15 + j)) Wq (hS.shift 15 _ (by omega)) (by omega)) (fun w' hb => row_keep hS (hb.block _ hS.1)) (fun Wn hb1 hS2 => ?_)
      simp only [Act.put, List.setIfInBounds_toArray, List.set_cons_zero, List.set_cons_succ]
      have HDn := Lib.hid (HD.out.below hb1)
      clear HD hS hb1
      have HD := HDn
      have hS := hS2
      clear HDn hS2
      revert hS HD
      generalize Wn = Wq
      intro HD hS
      refine takeC (i := 11) (some 71) 71 #[.slice (some ⟨b, off + 20, none⟩) (n - 20) (c - 20)] (.agg (ndC (fun j => z (20 + j)))) (R := fun w' => Below Wq.heap.size Wq w') rfl rfl (by kernel_rfl) (by rfl) (by go_simp) (nodeAt_any b (off + 20) (n - 20) (c - 20) (fun j => z (20 + j)) Wq (hS.shift 20 _ (by omega)) (by omega) (by omega)) (fun w' hb => row_keep hS (hb.block _ hS.1)) (fun Wn hb1 hS2 => ?_)
      simp only [Act.put, List.setIfInBounds_toArray, List.set_cons_zero, List.set_cons_succ]
      have HDn := Lib.hid (HD.out.below hb1)
      clear HD hS hb1
      have HD := HDn
      have hS := hS2
      clear HDn hS2
      revert hS HD
      generalize Wn = Wq
      intro HD hS
      refine takeSt (i := 13) 5 (.tmp 72) (.tmp 62) P 1 (.int .u8 (z (8 + 0))) #[.int .u8 (z (8 + 0))] (pdC (drSet_ci (withT (kdP (z 4)) A m cL) (z (8 + 0)))) rfl rfl (by kernel_rfl) (by rfl) rfl rfl rfl rfl (by kernel_rfl) (by kernel_rfl) HD.out.1 (Nat.le_of_ble_eq_true rfl) (drPut_ci _ _) (fun Wn q1 => ⟨row_keep hS (q1.2.2 _ (by have := HD.out.2.2.2.2.2; omega)), ?_⟩)
      simp only [Act.put, List.setIfInBounds_toArray, List.set_cons_zero, List.set_cons_succ]
      have hSn := row_keep hS (q1.2.2 _ (by have := HD.out.2.2.2.2.2; omega))
      have HDn := Lib.hid (HD.out.put (y := (drSet_ci (withT (kdP (z 4)) A m cL) (z (8 + 0)))) q1)
      clear HD hS q1
      have HD := HDn
      have hS := hSn
      clear HDn hSn
      revert hS HD
      generalize Wn = Wq
      intro HD hS
      refine takeY (i := 14) (some 73) (v := .pointer (some ⟨P, 9, none⟩)) rfl rfl (by kernel_rfl) (by kernel_rfl) (by kernel_rfl) (fun _ _ _ h => h) (by rfl) (fun w' hS => by go_simp) hS ?_
      simp only [Act.put, List.setIfInBounds_toArray, List.set_cons_zero, List.set_cons_succ]
      refine takeSt (i := 15) 3 (.tmp 73) (.tmp 65) P 9 (.int .i64 ((((numZ (fun j => z (15 + j)) 0 2).toNat : Nat) : Int))) #[.int .i64 ((((numZ (fun j => z (15 + j)) 0 2).toNat : Nat) : Int))] (pdC (drSet_ho (drSet_ci (withT (kdP (z 4)) A m cL) (z (8 + 0))) ((((numZ (fun j => z (15 + j)) 0 2).toNat : Nat) : Int)))) rfl rfl (by kernel_rfl) (by rfl) rfl rfl rfl rfl (by kernel_rfl) (by kernel_rfl) HD.out.1 (Nat.le_of_ble_eq_true rfl) (drPut_ho _ _) (fun Wn q1 => ⟨row_keep hS (q1.2.2 _ (by have := HD.out.2.2.2.2.2; omega)), ?_⟩)
      simp only [Act.put, List.setIfInBounds_toArray, List.set_cons_zero, List.set_cons_succ]
      have hSn := row_keep hS (q1.2.2 _ (by have := HD.out.2.2.2.2.2; omega))
      have HDn := Lib.hid (HD.out.put (y := (drSet_ho (drSet_ci (withT (kdP (z 4)) A m cL) (z (8 + 0))) ((((numZ (fun j => z (15 + j)) 0 2).toNat : Nat) : Int)))) q1)
      clear HD hS q1
      have HD := HDn
      have hS := hSn
      clear HDn hSn
      revert hS HD
      generalize Wn = Wq
      intro HD hS
      refine takeY (i := 16) (some 74) (v := .pointer (some ⟨P, 11, none⟩)) rfl rfl (by kernel_rfl) (by kernel_rfl) (by kernel_rfl) (fun _ _ _ h => h) (by rfl) (fun w' hS => by go_simp) hS ?_
      simp only [Act.put, List.setIfInBounds_toArray, List.set_cons_zero, List.set_cons_succ]
      refine takeSt (i := 17) 5 (.tmp 74) (.tmp 68) P 11 (.int .u8 (z (19 + 0))) #[.int .u8 (z (19 + 0))] (pdC (drSet_pr (drSet_ho (drSet_ci (withT (kdP (z 4)) A m cL) (z (8 + 0))) ((((numZ (fun j => z (15 + j)) 0 2).toNat : Nat) : Int))) (z (19 + 0)))) rfl rfl (by kernel_rfl) (by rfl) rfl rfl rfl rfl (by kernel_rfl) (by kernel_rfl) HD.out.1 (Nat.le_of_ble_eq_true rfl) (drPut_pr _ _) (fun Wn q1 => ⟨row_keep hS (q1.2.2 _ (by have := HD.out.2.2.2.2.2; omega)), ?_⟩)
      simp only [Act.put, List.setIfInBounds_toArray, List.set_cons_zero, List.set_cons_succ]
      have hSn := row_keep hS (q1.2.2 _ (by have := HD.out.2.2.2.2.2; omega))
      have HDn := Lib.hid (HD.out.put (y := (drSet_pr (drSet_ho (drSet_ci (withT (kdP (z 4)) A m cL) (z (8 + 0))) ((((numZ (fun j => z (15 + j)) 0 2).toNat : Nat) : Int))) (z (19 + 0)))) q1)
      clear HD hS q1
      have HD := HDn
      have hS := hSn
      clear HDn hSn
      revert hS HD
      generalize Wn = Wq
      intro HD hS
      refine takeY (i := 18) (some 75) (v := .pointer (some ⟨P, 12, none⟩)) rfl rfl (by kernel_rfl) (by kernel_rfl) (by kernel_rfl) (fun _ _ _ h => h) (by rfl) (fun w' hS => by go_simp) hS ?_
      simp only [Act.put, List.setIfInBounds_toArray, List.set_cons_zero, List.set_cons_succ]
      refine takeSt (i := 19) 33 (.tmp 75) (.tmp 71) P 12 (.agg (ndC (fun j => z (20 + j)))) (ndC (fun j => z (20 + j))) (pdC (drSet_la (drSet_pr (drSet_ho (drSet_ci (withT (kdP (z 4)) A m cL) (z (8 + 0))) ((((numZ (fun j => z (15 + j)) 0 2).toNat : Nat) : Int))) (z (19 + 0))) ((fun j => z (20 + j))))) rfl rfl (by kernel_rfl) (by rfl) rfl rfl rfl rfl info_node (nd_all _) HD.out.1 (Nat.le_of_ble_eq_true rfl) (drPut_la _ _) (fun Wn q1 => ⟨row_keep hS (q1.2.2 _ (by have := HD.out.2.2.2.2.2; omega)), ?_⟩)
      simp only [Act.put, List.setIfInBounds_toArray, List.set_cons_zero, List.set_cons_succ]
      have hSn := row_keep hS (q1.2.2 _ (by have := HD.out.2.2.2.2.2; omega))
      have HDn := Lib.hid (HD.out.put (y := (drSet_la (drSet_pr (drSet_ho (drSet_ci (withT (kdP (z 4)) A m cL) (z (8 + 0))) ((((numZ (fun j => z (15 + j)) 0 2).toNat : Nat) : Int))) (z (19 + 0))) ((fun j => z (20 + j))))) q1)
      clear HD hS q1
      have HD := HDn
      have hS := hSn
      clear HDn hSn
      revert hS HD
      generalize Wn = Wq
      intro HD hS
      clear hS
      refine wpAnyH_done (by kernel_rfl) ?_ _
      go_wp2_with fail
      go_meet
      case rel => exact Lib.hid (HD.out.eq (swD_1 z A m cL))
    · as_aux_lemma =>
      clear hk hq
      have f15 : (z 4 == 15) = false := by rw [hk4]; rfl
      have f16 : (z 4 == 16) = false := by rw [hk4]; rfl
      have f17 : (z 4 == 17) = false := by rw [hk4]; rfl
      have f18 : (z 4 == 18) = true := by rw [hk4]; rfl
      have f20 : (z 4 == 20) = false := by rw [hk4]; rfl
      have f24 : (z 4 == 24) = false := by rw [hk4]; rfl
      have f25 : (z 4 == 25) = false := by rw [hk4]; rfl
      clear hk4
      have hHn : 27 ≤ n := by have : hdN 2 = 27 := rfl; omega
      clear hhq hh h17
      go_wp2_with fail
      have HDd := Lib.hid (HD.out.below (bself wq).drew)
      refine wp_region_held_drew (S := fun w' => Row8 w' b off n z) (by kernel_rfl) HDd.out.2.2.1 (fun hS => ?_)
      generalize hWq : wq.drew = Wq at hS HDd ⊢
      clear hWq HD
      have HD := HDd
      clear HDd
      refine takeY (i := 0) (some 93) (v := .slice (some ⟨b, off, none⟩) n c) rfl rfl (by kernel_rfl) (by kernel_rfl) (by kernel_rfl) (fun _ _ _ h => h) (by rfl) (fun w' hS => by go_simp) hS ?_
      simp only [Act.put, List.setIfInBounds_toArray, List.set_cons_zero, List.set_cons_succ]
      refine takeY (i := 1) (some 94) (v := .slice (some ⟨b, off + 10, none⟩) (n - 10) (c - 10)) rfl rfl (by kernel_rfl) (by kernel_rfl) (by kernel_rfl) (fun _ _ _ h => h) (by rfl) (fun w' hS => by exact slice_in _ _ _ (.tmp 93) b off n c 10 10 rfl rfl rfl rfl (by omega) hc (by omega)) hS ?_
      simp only [Act.put, List.setIfInBounds_toArray, List.set_cons_zero, List.set_cons_succ]
      refine takeY (i := 3) (some 96) (v := .slice (some ⟨b, off, none⟩) n c) rfl rfl (by kernel_rfl) (by kernel_rfl) (by kernel_rfl) (fun _ _ _ h => h) (by rfl) (fun w' hS => by go_simp) hS ?_
      simp only [Act.put, List.setIfInBounds_toArray, List.set_cons_zero, List.set_cons_succ]
      refine takeY (i := 4) (some 97) (v := .slice (some ⟨b, off + 12, none⟩) (n - 12) (c - 12)) rfl rfl (by kernel_rfl) (by kernel_rfl) (by kernel_rfl) (fun _ _ _ h => h) (by rfl) (fun w' hS => by exact slice_in _ _ _ (.tmp 96) b off n c 12 12 rfl rfl rfl rfl (by omega) hc (by omega)) hS ?_
      simp only [Act.put, List.setIfInBounds_toArray, List.set_cons_zero, List.set_cons_succ]
      refine takeY (i := 6) (some 99) (v := .slice (some ⟨b, off, none⟩) n c) rfl rfl (by kernel_rfl) (by kernel_rfl) (by kernel_rfl) (fun _ _ _ h => h) (by rfl) (fun w' hS => by go_simp) hS ?_
      simp only [Act.put, List.setIfInBounds_toArray, List.set_cons_zero, List.set_cons_succ]
      refine takeY (i := 7) (some 100) (v := .slice (some ⟨b, off + 20, none⟩) 4 (c - 20)) rfl rfl (by kernel_rfl) (by kernel_rfl) (by kernel_rfl) (fun _ _ _ h => h) (by rfl) (fun w' hS => by (have h1 : (24 : Int) ≤ (c : Int) := (by omega); have h2 : ¬ c = 20 := (by omega); clear hS; go_simp; first | done | (rw [if_pos h1, if_neg h2]))) hS ?_
      simp only [Act.put, List.setIfInBounds_toArray, List.set_cons_zero, List.set_cons_succ]
      refine takeY (i := 10) (some 103) (v := .slice (some ⟨b, off, none⟩) n c) rfl rfl (by kernel_rfl) (by kernel_rfl) (by kernel_rfl) (fun _ _ _ h => h) (by rfl) (fun w' hS => by go_simp) hS ?_
      simp only [Act.put, List.setIfInBounds_toArray, List.set_cons_zero, List.set_cons_succ]
      refine takeY (i := 11) (some 104) (v := .pointer (some ⟨b, off + 26, none⟩)) rfl rfl (by kernel_rfl) (by kernel_rfl) (by kernel_rfl) (fun _ _ _ h => h) (by rfl) (fun w' hS => by (have hx : (26 : Int) < (n : Int) := (by omega); clear hS; go_simp)) hS ?_
      simp only [Act.put, List.setIfInBounds_toArray, List.set_cons_zero, List.set_cons_succ]
      refine takeY (i := 12) (some 105) (v := .int .u8 (z 26)) rfl rfl (by kernel_rfl) (by kernel_rfl) (by kernel_rfl) (fun _ _ _ h => h) (by rfl) (fun w' hS => by (have c9 : w'.cell? ⟨b, off + 26, none⟩ = some (.int .u8 (z 26))   := (hS.2.1 26 (by omega)); clear hS; go_simp)) hS ?_
      simp only [Act.put, List.setIfInBounds_toArray, List.set_cons_zero, List.set_cons_succ]
      refine takeC (i := 2) (some 95) 70 #[.slice (some ⟨b, off + 10, none⟩) (n - 10) (c - 10)] (.int .i64 (((numZ (fun j => z (10 + j)) 0 2).toNat : Nat) : Int)) (R := fun w' => Below Wq.heap.size Wq w') rfl rfl (by kernel_rfl) (by rfl) (by go_simp) (number_two b (off + 10) (n - 10) (c - 10) (fun j => z (10 + j)) Wq (hS.shift 10 _ (by omega)) (by omega)) (fun w' hb => row_keep hS (hb.block _ hS.1)) (fun Wn hb1 hS2 => ?_)
      simp only [Act.put, List.setIfInBounds_toArray, List.set_cons_zero, List.set_cons_succ]
      have HDn := Lib.hid (HD.out.below hb1)
      clear HD hS hb1
      have HD := HDn
      have hS := hS2
      clear HDn hS2
      revert hS HD
      generalize Wn = Wq
      intro HD hS
      refine takeY (i := 13) (some 106) (v := .pointer (some ⟨P, 19, none⟩)) rfl rfl (by kernel_rfl) (by kernel_rfl) (by kernel_rfl) (fun _ _ _ h => h) (by rfl) (fun w' hS => by go_simp) hS ?_
      simp only [Act.put, List.setIfInBounds_toArray, List.set_cons_zero, List.set_cons_succ]
      refine takeC (i := 5) (some 98) 72 #[.slice (some ⟨b, off + 12, none⟩) (n - 12) (c - 12)] (.agg (idC (fun j => z (12 + j)))) (R := fun w' => Below Wq.heap.size Wq w') rfl rfl (by kernel_rfl) (by rfl) (by go_simp) (idAt_any b (off + 12) (n - 12) (c - 12) (fun j => z (12 + j)) Wq (hS.shift 12 _ (by omega)) (by omega) (by omega)) (fun w' hb => row_keep hS (hb.block _ hS.1)) (fun Wn hb1 hS2 => ?_)
      simp only [Act.put, List.setIfInBounds_toArray, List.set_cons_zero, List.set_cons_succ]
      have HDn := Lib.hid (HD.out.below hb1)
      clear HD hS hb1
      have HD := HDn
      have hS := hS2
      clear HDn hS2
      revert hS HD
      generalize Wn = Wq
      intro HD hS
      refine takeC (i := 8) (some 101) 49 #[.slice (some ⟨b, off + 20, none⟩) 4 (c - 20)] (.int .u64 (((numZ (fun j => z (20 + j)) 0 4).toNat : Nat) : Int)) (R := fun w' => Below Wq.heap.size Wq w') rfl rfl (by kernel_rfl) (by rfl) (by go_simp) (number_four b (off + 20) (c - 20) (fun j => z (20 + j)) Wq (hS.shift 20 4 (by omega))) (fun w' hb => row_keep hS (hb.block _ hS.1)) (fun Wn hb1 hS2 => ?_)
      simp only [Act.put, List.setIfInBounds_toArray, List.set_cons_zero, List.set_cons_succ]
      have HDn := Lib.hid (HD.out.below hb1)
      clear HD hS hb1
      have HD := HDn
      have hS := hS2
      clear HDn hS2
      revert hS HD
      generalize Wn = Wq
      intro HD hS
      refine takeY (i := 9) (some 102) (v := .int .u32 (((numZ (fun j => z (20 + j)) 0 4).toNat : Nat) : Int)) rfl rfl (by kernel_rfl) (by kernel_rfl) (by kernel_rfl) (fun _ _ _ h => h) (by rfl) (fun w' hS => by (have hq := num4_le z 20 (fun j => hS.2.2 j); clear hS; go_simp; simp [IntKind.wrap, IntKind.signed, IntKind.bits]; omega)) hS ?_
      simp only [Act.put, List.setIfInBounds_toArray, List.set_cons_zero, List.set_cons_succ]
      refine takeSt (i := 14) 3 (.tmp 106) (.tmp 95) P 19 (.int .i64 ((((numZ (fun j => z (10 + j)) 0 2).toNat : Nat) : Int))) #[.int .i64 ((((numZ (fun j => z (10 + j)) 0 2).toNat : Nat) : Int))] (pdC (drSet_li (withT (kdP (z 4)) A m cL) ((((numZ (fun j => z (10 + j)) 0 2).toNat : Nat) : Int)))) rfl rfl (by kernel_rfl) (by rfl) rfl rfl rfl rfl (by kernel_rfl) (by kernel_rfl) HD.out.1 (Nat.le_of_ble_eq_true rfl) (drPut_li _ _) (fun Wn q1 => ⟨row_keep hS (q1.2.2 _ (by have := HD.out.2.2.2.2.2; omega)), ?_⟩)
      simp only [Act.put, List.setIfInBounds_toArray, List.set_cons_zero, List.set_cons_succ]
      have hSn := row_keep hS (q1.2.2 _ (by have := HD.out.2.2.2.2.2; omega))
      have HDn := Lib.hid (HD.out.put (y := (drSet_li (withT (kdP (z 4)) A m cL) ((((numZ (fun j => z (10 + j)) 0 2).toNat : Nat) : Int)))) q1)
      clear HD hS q1
      have HD := HDn
      have hS := hSn
      clear HDn hSn
      revert hS HD
      generalize Wn = Wq
      intro HD hS
      refine takeY (i := 15) (some 107) (v := .pointer (some ⟨P, 20, none⟩)) rfl rfl (by kernel_rfl) (by kernel_rfl) (by kernel_rfl) (fun _ _ _ h => h) (by rfl) (fun w' hS => by go_simp) hS ?_
      simp only [Act.put, List.setIfInBounds_toArray, List.set_cons_zero, List.set_cons_succ]
      refine takeSt (i := 16) 35 (.tmp 107) (.tmp 98) P 20 (.agg (idC (fun j => z (12 + j)))) (idC (fun j => z (12 + j))) (pdC (drSet_id (drSet_li (withT (kdP (z 4)) A m cL) ((((numZ (fun j => z (10 + j)) 0 2).toNat : Nat) : Int))) ((fun j => z (12 + j))))) rfl rfl (by kernel_rfl) (by rfl) rfl rfl rfl rfl info_id (id_all _) HD.out.1 (Nat.le_of_ble_eq_true rfl) (drPut_id _ _) (fun Wn q1 => ⟨row_keep hS (q1.2.2 _ (by have := HD.out.2.2.2.2.2; omega)), ?_⟩)
      simp only [Act.put, List.setIfInBounds_toArray, List.set_cons_zero, List.set_cons_succ]
      have hSn := row_keep hS (q1.2.2 _ (by have := HD.out.2.2.2.2.2; omega))
      have HDn := Lib.hid (HD.out.put (y := (drSet_id (drSet_li (withT (kdP (z 4)) A m cL) ((((numZ (fun j => z (10 + j)) 0 2).toNat : Nat) : Int))) ((fun j => z (12 + j))))) q1)
      clear HD hS q1
      have HD := HDn
      have hS := hSn
      clear HDn hSn
      revert hS HD
      generalize Wn = Wq
      intro HD hS
      refine takeY (i := 17) (some 108) (v := .pointer (some ⟨P, 28, none⟩)) rfl rfl (by kernel_rfl) (by kernel_rfl) (by kernel_rfl) (fun _ _ _ h => h) (by rfl) (fun w' hS => by go_simp) hS ?_
      simp only [Act.put, List.setIfInBounds_toArray, List.set_cons_zero, List.set_cons_succ]
      refine takeSt (i := 18) 36 (.tmp 108) (.tmp 102) P 28 (.int .u32 (((numZ (fun j => z (20 + j)) 0 4).toNat : Nat) : Int)) #[.int .u32 (((numZ (fun j => z (20 + j)) 0 4).toNat : Nat) : Int)] (pdC (drSet_sq (drSet_id (drSet_li (withT (kdP (z 4)) A m cL) ((((numZ (fun j => z (10 + j)) 0 2).toNat : Nat) : Int))) ((fun j => z (12 + j)))) ((numZ (fun j => z (20 + j)) 0 4).toNat))) rfl rfl (by kernel_rfl) (by rfl) rfl rfl rfl rfl (by kernel_rfl) (by kernel_rfl) HD.out.1 (Nat.le_of_ble_eq_true rfl) (drPut_sq _ _) (fun Wn q1 => ⟨row_keep hS (q1.2.2 _ (by have := HD.out.2.2.2.2.2; omega)), ?_⟩)
      simp only [Act.put, List.setIfInBounds_toArray, List.set_cons_zero, List.set_cons_succ]
      have hSn := row_keep hS (q1.2.2 _ (by have := HD.out.2.2.2.2.2; omega))
      have HDn := Lib.hid (HD.out.put (y := (drSet_sq (drSet_id (drSet_li (withT (kdP (z 4)) A m cL) ((((numZ (fun j => z (10 + j)) 0 2).toNat : Nat) : Int))) ((fun j => z (12 + j)))) ((numZ (fun j => z (20 + j)) 0 4).toNat))) q1)
      clear HD hS q1
      have HD := HDn
      have hS := hSn
      clear HDn hSn
      revert hS HD
      generalize Wn = Wq
      intro HD hS
      refine takeY (i := 19) (some 109) (v := .pointer (some ⟨P, 29, none⟩)) rfl rfl (by kernel_rfl) (by kernel_rfl) (by kernel_rfl) (fun _ _ _ h => h) (by rfl) (fun w' hS => by go_simp) hS ?_
      simp only [Act.put, List.setIfInBounds_toArray, List.set_cons_zero, List.set_cons_succ]
      refine takeSt (i := 20) 5 (.tmp 109) (.tmp 105) P 29 (.int .u8 (z (26 + 0))) #[.int .u8 (z (26 + 0))] (pdC (drSet_bi (drSet_sq (drSet_id (drSet_li (withT (kdP (z 4)) A m cL) ((((numZ (fun j => z (10 + j)) 0 2).toNat : Nat) : Int))) ((fun j => z (12 + j)))) ((numZ (fun j => z (20 + j)) 0 4).toNat)) (z (26 + 0)))) rfl rfl (by kernel_rfl) (by rfl) rfl rfl rfl rfl (by kernel_rfl) (by kernel_rfl) HD.out.1 (Nat.le_of_ble_eq_true rfl) (drPut_bi _ _) (fun Wn q1 => ⟨row_keep hS (q1.2.2 _ (by have := HD.out.2.2.2.2.2; omega)), ?_⟩)
      simp only [Act.put, List.setIfInBounds_toArray, List.set_cons_zero, List.set_cons_succ]
      have hSn := row_keep hS (q1.2.2 _ (by have := HD.out.2.2.2.2.2; omega))
      have HDn := Lib.hid (HD.out.put (y := (drSet_bi (drSet_sq (drSet_id (drSet_li (withT (kdP (z 4)) A m cL) ((((numZ (fun j => z (10 + j)) 0 2).toNat : Nat) : Int))) ((fun j => z (12 + j)))) ((numZ (fun j => z (20 + j)) 0 4).toNat)) (z (26 + 0)))) q1)
      clear HD hS q1
      have HD := HDn
      have hS := hSn
      clear HDn hSn
      revert hS HD
      generalize Wn = Wq
      intro HD hS
      clear hS
      refine wpAnyH_done (by kernel_rfl) ?_ _
      go_wp2_with fail
      go_meet
      case rel => exact Lib.hid (HD.out.eq (swD_2 z A m cL))
    · as_aux_lemma =>
      clear hk hq
      have f15 : (z 4 == 15) = false := by rw [hk4]; rfl
      have f16 : (z 4 == 16) = false := by rw [hk4]; rfl
      have f17 : (z 4 == 17) = false := by rw [hk4]; rfl
      have f18 : (z 4 == 18) = false := by rw [hk4]; rfl
      have f20 : (z 4 == 20) = true := by rw [hk4]; rfl
      have f24 : (z 4 == 24) = false := by rw [hk4]; rfl
      have f25 : (z 4 == 25) = false := by rw [hk4]; rfl
      clear hk4
      have hHn : 27 ≤ n := by have : hdN 2 = 27 := rfl; omega
      clear hhq hh h17
      go_wp2_with fail
      have HDd := Lib.hid (HD.out.below (bself wq).drew)
      refine wp_region_held_drew (S := fun w' => Row8 w' b off n z) (by kernel_rfl) HDd.out.2.2.1 (fun hS => ?_)
      generalize hWq : wq.drew = Wq at hS HDd ⊢
      clear hWq HD
      have HD := HDd
      clear HDd
      refine takeY (i := 0) (some 93) (v := .slice (some ⟨b, off, none⟩) n c) rfl rfl (by kernel_rfl) (by kernel_rfl) (by kernel_rfl) (fun _ _ _ h => h) (by rfl) (fun w' hS => by go_simp) hS ?_
      simp only [Act.put, List.setIfInBounds_toArray, List.set_cons_zero, List.set_cons_succ]
      refine takeY (i := 1) (some 94) (v := .slice (some ⟨b, off + 10, none⟩) (n - 10) (c - 10)) rfl rfl (by kernel_rfl) (by kernel_rfl) (by kernel_rfl) (fun _ _ _ h => h) (by rfl) (fun w' hS => by exact slice_in _ _ _ (.tmp 93) b off n c 10 10 rfl rfl rfl rfl (by omega) hc (by omega)) hS ?_
      simp only [Act.put, List.setIfInBounds_toArray, List.set_cons_zero, List.set_cons_succ]
      refine takeY (i := 3) (some 96) (v := .slice (some ⟨b, off, none⟩) n c) rfl rfl (by kernel_rfl) (by kernel_rfl) (by kernel_rfl) (fun _ _ _ h => h) (by rfl) (fun w' hS => by go_simp) hS ?_
      simp only [Act.put, List.setIfInBounds_toArray, List.set_cons_zero, List.set_cons_succ]
      refine takeY (i := 4) (some 97) (v := .slice (some ⟨b, off + 12, none⟩) (n - 12) (c - 12)) rfl rfl (by kernel_rfl) (by kernel_rfl) (by kernel_rfl) (fun _ _ _ h => h) (by rfl) (fun w' hS => by exact slice_in _ _ _ (.tmp 96) b off n c 12 12 rfl rfl rfl rfl (by omega) hc (by omega)) hS ?_
      simp only [Act.put, List.setIfInBounds_toArray, List.set_cons_zero, List.set_cons_succ]
      refine takeY (i := 6) (some 99) (v := .slice (some ⟨b, off, none⟩) n c) rfl rfl (by kernel_rfl) (by kernel_rfl) (by kernel_rfl) (fun _ _ _ h => h) (by rfl) (fun w' hS => by go_simp) hS ?_
      simp only [Act.put, List.setIfInBounds_toArray, List.set_cons_zero, List.set_cons_succ]
      refine takeY (i := 7) (some 100) (v := .slice (some ⟨b, off + 20, none⟩) 4 (c - 20)) rfl rfl (by kernel_rfl) (by kernel_rfl) (by kernel_rfl) (fun _ _ _ h => h) (by rfl) (fun w' hS => by (have h1 : (24 : Int) ≤ (c : Int) := (by omega); have h2 : ¬ c = 20 := (by omega); clear hS; go_simp; first | done | (rw [if_pos h1, if_neg h2]))) hS ?_
      simp only [Act.put, List.setIfInBounds_toArray, List.set_cons_zero, List.set_cons_succ]
      refine takeY (i := 10) (some 103) (v := .slice (some ⟨b, off, none⟩) n c) rfl rfl (by kernel_rfl) (by kernel_rfl) (by kernel_rfl) (fun _ _ _ h => h) (by rfl) (fun w' hS => by go_simp) hS ?_
      simp only [Act.put, List.setIfInBounds_toArray, List.set_cons_zero, List.set_cons_succ]
      refine takeY (i := 11) (some 104) (v := .pointer (some ⟨b, off + 26, none⟩)) rfl rfl (by kernel_rfl) (by kernel_rfl) (by kernel_rfl) (fun _ _ _ h => h) (by rfl) (fun w' hS => by (have hx : (26 : Int) < (n : Int) := (by omega); clear hS; go_simp)) hS ?_
      simp only [Act.put, List.setIfInBounds_toArray, List.set_cons_zero, List.set_cons_succ]
      refine takeY (i := 12) (some 105) (v := .int .u8 (z 26)) rfl rfl (by kernel_rfl) (by kernel_rfl) (by kernel_rfl) (fun _ _ _ h => h) (by rfl) (fun w' hS => by (have c9 : w'.cell? ⟨b, off + 26, none⟩ = some (.int .u8 (z 26))   := (hS.2.1 26 (by omega)); clear hS; go_simp)) hS ?_
      simp only [Act.put, List.setIfInBounds_toArray, List.set_cons_zero, List.set_cons_succ]
      refine takeC (i := 2) (some 95) 70 #[.slice (some ⟨b, off + 10, none⟩) (n - 10) (c - 10)] (.int .i64 (((numZ (fun j => z (10 + j)) 0 2).toNat : Nat) : Int)) (R := fun w' => Below Wq.heap.size Wq w') rfl rfl (by kernel_rfl) (by rfl) (by go_simp) (number_two b (off + 10) (n - 10) (c - 10) (fun j => z (10 + j)) Wq (hS.shift 10 _ (by omega)) (by omega)) (fun w' hb => row_keep hS (hb.block _ hS.1)) (fun Wn hb1 hS2 => ?_)
      simp only [Act.put, List.setIfInBounds_toArray, List.set_cons_zero, List.set_cons_succ]
      have HDn := Lib.hid (HD.out.below hb1)
      clear HD hS hb1
      have HD := HDn
      have hS := hS2
      clear HDn hS2
      revert hS HD
      generalize Wn = Wq
      intro HD hS
      refine takeY (i := 13) (some 106) (v := .pointer (some ⟨P, 19, none⟩)) rfl rfl (by kernel_rfl) (by kernel_rfl) (by kernel_rfl) (fun _ _ _ h => h) (by rfl) (fun w' hS => by go_simp) hS ?_
      simp only [Act.put, List.setIfInBounds_toArray, List.set_cons_zero, List.set_cons_succ]
      refine takeC (i := 5) (some 98) 72 #[.slice (some ⟨b, off + 12, none⟩) (n - 12) (c - 12)] (.agg (idC (fun j => z (12 + j)))) (R := fun w' => Below Wq.heap.size Wq w') rfl rfl (by kernel_rfl) (by rfl) (by go_simp) (idAt_any b (off + 12) (n - 12) (c - 12) (fun j => z (12 + j)) Wq (hS.shift 12 _ (by omega)) (by omega) (by omega)) (fun w' hb => row_keep hS (hb.block _ hS.1)) (fun Wn hb1 hS2 => ?_)
      simp only [Act.put, List.setIfInBounds_toArray, List.set_cons_zero, List.set_cons_succ]
      have HDn := Lib.hid (HD.out.below hb1)
      clear HD hS hb1
      have HD := HDn
      have hS := hS2
      clear HDn hS2
      revert hS HD
      generalize Wn = Wq
      intro HD hS
      refine takeC (i := 8) (some 101) 49 #[.slice (some ⟨b, off + 20, none⟩) 4 (c - 20)] (.int .u64 (((numZ (fun j => z (20 + j)) 0 4).toNat : Nat) : Int)) (R := fun w' => Below Wq.heap.size Wq w') rfl rfl (by kernel_rfl) (by rfl) (by go_simp) (number_four b (off + 20) (c - 20) (fun j => z (20 + j)) Wq (hS.shift 20 4 (by omega))) (fun w' hb => row_keep hS (hb.block _ hS.1)) (fun Wn hb1 hS2 => ?_)
      simp only [Act.put, List.setIfInBounds_toArray, List.set_cons_zero, List.set_cons_succ]
      have HDn := Lib.hid (HD.out.below hb1)
      clear HD hS hb1
      have HD := HDn
      have hS := hS2
      clear HDn hS2
      revert hS HD
      generalize Wn = Wq
      intro HD hS
      refine takeY (i := 9) (some 102) (v := .int .u32 (((numZ (fun j => z (20 + j)) 0 4).toNat : Nat) : Int)) rfl rfl (by kernel_rfl) (by kernel_rfl) (by kernel_rfl) (fun _ _ _ h => h) (by rfl) (fun w' hS => by (have hq := num4_le z 20 (fun j => hS.2.2 j); clear hS; go_simp; simp [IntKind.wrap, IntKind.signed, IntKind.bits]; omega)) hS ?_
      simp only [Act.put, List.setIfInBounds_toArray, List.set_cons_zero, List.set_cons_succ]
      refine takeSt (i := 14) 3 (.tmp 106) (.tmp 95) P 19 (.int .i64 ((((numZ (fun j => z (10 + j)) 0 2).toNat : Nat) : Int))) #[.int .i64 ((((numZ (fun j => z (10 + j)) 0 2).toNat : Nat) : Int))] (pdC (drSet_li (withT (kdP (z 4)) A m cL) ((((numZ (fun j => z (10 + j)) 0 2).toNat : Nat) : Int)))) rfl rfl (by kernel_rfl) (by rfl) rfl rfl rfl rfl (by kernel_rfl) (by kernel_rfl) HD.out.1 (Nat.le_of_ble_eq_true rfl) (drPut_li _ _) (fun Wn q1 => ⟨row_keep hS (q1.2.2 _ (by have := HD.out.2.2.2.2.2; omega)), ?_⟩)
      simp only [Act.put, List.setIfInBounds_toArray, List.set_cons_zero, List.set_cons_succ]
      have hSn := row_keep hS (q1.2.2 _ (by have := HD.out.2.2.2.2.2; omega))
      have HDn := Lib.hid (HD.out.put (y := (drSet_li (withT (kdP (z 4)) A m cL) ((((numZ (fun j => z (10 + j)) 0 2).toNat : Nat) : Int)))) q1)
      clear HD hS q1
      have HD := HDn
      have hS := hSn
      clear HDn hSn
      revert hS HD
      generalize Wn = Wq
      intro HD hS
      refine takeY (i := 15) (some 107) (v := .pointer (some ⟨P, 20, none⟩)) rfl rfl (by kernel_rfl) (by kernel_rfl) (by kernel_rfl) (fun _ _ _ h => h) (by rfl) (fun w' hS => by go_simp) hS ?_
      simp only [Act.put, List.setIfInBounds_toArray, List.set_cons_zero, List.set_cons_succ]
      refine takeSt (i := 16) 35 (.tmp 107) (.tmp 98) P 20 (.agg (idC (fun j => z (12 + j)))) (idC (fun j => z (12 + j))) (pdC (drSet_id (drSet_li (withT (kdP (z 4)) A m cL) ((((numZ (fun j => z (10 + j)) 0 2).toNat : Nat) : Int))) ((fun j => z (12 + j))))) rfl rfl (by kernel_rfl) (by rfl) rfl rfl rfl rfl info_id (id_all _) HD.out.1 (Nat.le_of_ble_eq_true rfl) (drPut_id _ _) (fun Wn q1 => ⟨row_keep hS (q1.2.2 _ (by have := HD.out.2.2.2.2.2; omega)), ?_⟩)
      simp only [Act.put, List.setIfInBounds_toArray, List.set_cons_zero, List.set_cons_succ]
      have hSn := row_keep hS (q1.2.2 _ (by have := HD.out.2.2.2.2.2; omega))
      have HDn := Lib.hid (HD.out.put (y := (drSet_id (drSet_li (withT (kdP (z 4)) A m cL) ((((numZ (fun j => z (10 + j)) 0 2).toNat : Nat) : Int))) ((fun j => z (12 + j))))) q1)
      clear HD hS q1
      have HD := HDn
      have hS := hSn
      clear HDn hSn
      revert hS HD
      generalize Wn = Wq
      intro HD hS
      refine takeY (i := 17) (some 108) (v := .pointer (some ⟨P, 28, none⟩)) rfl rfl (by kernel_rfl) (by kernel_rfl) (by kernel_rfl) (fun _ _ _ h => h) (by rfl) (fun w' hS => by go_simp) hS ?_
      simp only [Act.put, List.setIfInBounds_toArray, List.set_cons_zero, List.set_cons_succ]
      refine takeSt (i := 18) 36 (.tmp 108) (.tmp 102) P 28 (.int .u32 (((numZ (fun j => z (20 + j)) 0 4).toNat : Nat) : Int)) #[.int .u32 (((numZ (fun j => z (20 + j)) 0 4).toNat : Nat) : Int)] (pdC (drSet_sq (drSet_id (drSet_li (withT (kdP (z 4)) A m cL) ((((numZ (fun j => z (10 + j)) 0 2).toNat : Nat) : Int))) ((fun j => z (12 + j)))) ((numZ (fun j => z (20 + j)) 0 4).toNat))) rfl rfl (by kernel_rfl) (by rfl) rfl rfl rfl rfl (by kernel_rfl) (by kernel_rfl) HD.out.1 (Nat.le_of_ble_eq_true rfl) (drPut_sq _ _) (fun Wn q1 => ⟨row_keep hS (q1.2.2 _ (by have := HD.out.2.2.2.2.2; omega)), ?_⟩)
      simp only [Act.put, List.setIfInBounds_toArray, List.set_cons_zero, List.set_cons_succ]
      have hSn := row_keep hS (q1.2.2 _ (by have := HD.out.2.2.2.2.2; omega))
      have HDn := Lib.hid (HD.out.put (y := (drSet_sq (drSet_id (drSet_li (withT (kdP (z 4)) A m cL) ((((numZ (fun j => z (10 + j)) 0 2).toNat : Nat) : Int))) ((fun j => z (12 + j)))) ((numZ (fun j => z (20 + j)) 0 4).toNat))) q1)
      clear HD hS q1
      have HD := HDn
      have hS := hSn
      clear HDn hSn
      revert hS HD
      generalize Wn = Wq
      intro HD hS
      refine takeY (i := 19) (some 109) (v := .pointer (some ⟨P, 29, none⟩)) rfl rfl (by kernel_rfl) (by kernel_rfl) (by kernel_rfl) (fun _ _ _ h => h) (by rfl) (fun w' hS => by go_simp) hS ?_
      simp only [Act.put, List.setIfInBounds_toArray, List.set_cons_zero, List.set_cons_succ]
      refine takeSt (i := 20) 5 (.tmp 109) (.tmp 105) P 29 (.int .u8 (z (26 + 0))) #[.int .u8 (z (26 + 0))] (pdC (drSet_bi (drSet_sq (drSet_id (drSet_li (withT (kdP (z 4)) A m cL) ((((numZ (fun j => z (10 + j)) 0 2).toNat : Nat) : Int))) ((fun j => z (12 + j)))) ((numZ (fun j => z (20 + j)) 0 4).toNat)) (z (26 + 0)))) rfl rfl (by kernel_rfl) (by rfl) rfl rfl rfl rfl (by kernel_rfl) (by kernel_rfl) HD.out.1 (Nat.le_of_ble_eq_true rfl) (drPut_bi _ _) (fun Wn q1 => ⟨row_keep hS (q1.2.2 _ (by have := HD.out.2.2.2.2.2; omega)), ?_⟩)
      simp only [Act.put, List.setIfInBounds_toArray, List.set_cons_zero, List.set_cons_succ]
      have hSn := row_keep hS (q1.2.2 _ (by have := HD.out.2.2.2.2.2; omega))
      have HDn := Lib.hid (HD.out.put (y := (drSet_bi (drSet_sq (drSet_id (drSet_li (withT (kdP (z 4)) A m cL) ((((numZ (fun j => z (10 + j)) 0 2).toNat : Nat) : Int))) ((fun j => z (12 + j)))) ((numZ (fun j => z (20 + j)) 0 4).toNat)) (z (26 + 0)))) q1)
      clear HD hS q1
      have HD := HDn
      have hS := hSn
      clear HDn hSn
      revert hS HD
      generalize Wn = Wq
      intro HD hS
      clear hS
      refine wpAnyH_done (by kernel_rfl) ?_ _
      go_wp2_with fail
      go_meet
      case rel => exact Lib.hid (HD.out.eq (swD_2 z A m cL))
    · as_aux_lemma =>
      clear hk hq
      have f15 : (z 4 == 15) = false := by rw [hk4]; rfl
      have f16 : (z 4 == 16) = false := by rw [hk4]; rfl
      have f17 : (z 4 == 17) = false := by rw [hk4]; rfl
      have f18 : (z 4 == 18) = false := by rw [hk4]; rfl
      have f20 : (z 4 == 20) = false := by rw [hk4]; rfl
      have f24 : (z 4 == 24) = true := by rw [hk4]; rfl
      have f25 : (z 4 == 25) = false := by rw [hk4]; rfl
      clear hk4
      have hHn : 33 ≤ n := by have : hdN 3 = 33 := rfl; omega
      clear hhq hh h17
      go_wp2_with fail
      have HDd := Lib.hid (HD.out.below (bself wq).drew)
      refine wp_region_held_drew (S := fun w' => Row8 w' b off n z) (by kernel_rfl) HDd.out.2.2.1 (fun hS => ?_)
      generalize hWq : wq.drew = Wq at hS HDd ⊢
      clear hWq HD
      have HD := HDd
      clear HDd
      refine takeY (i := 0) (some 113) (v := .slice (some ⟨b, off, none⟩) n c) rfl rfl (by kernel_rfl) (by kernel_rfl) (by kernel_rfl) (fun _ _ _ h => h) (by rfl) (fun w' hS => by go_simp) hS ?_
      simp only [Act.put, List.setIfInBounds_toArray, List.set_cons_zero, List.set_cons_succ]
      refine takeY (i := 1) (some 114) (v := .slice (some ⟨b, off + 10, none⟩) (n - 10) (c - 10)) rfl rfl (by kernel_rfl) (by kernel_rfl) (by kernel_rfl) (fun _ _ _ h => h) (by rfl) (fun w' hS => by exact slice_in _ _ _ (.tmp 113) b off n c 10 10 rfl rfl rfl rfl (by omega) hc (by omega)) hS ?_
      simp only [Act.put, List.setIfInBounds_toArray, List.set_cons_zero, List.set_cons_succ]
      refine takeY (i := 3) (some 116) (v := .slice (some ⟨b, off, none⟩) n c) rfl rfl (by kernel_rfl) (by kernel_rfl) (by kernel_rfl) (fun _ _ _ h => h) (by rfl) (fun w' hS => by go_simp) hS ?_
      simp only [Act.put, List.setIfInBounds_toArray, List.set_cons_zero, List.set_cons_succ]
      refine takeY (i := 4) (some 117) (v := .slice (some ⟨b, off + 17, none⟩) (n - 17) (c - 17)) rfl rfl (by kernel_rfl) (by kernel_rfl) (by kernel_rfl) (fun _ _ _ h => h) (by rfl) (fun w' hS => by exact slice_in _ _ _ (.tmp 116) b off n c 17 17 rfl rfl rfl rfl (by omega) hc (by omega)) hS ?_
      simp only [Act.put, List.setIfInBounds_toArray, List.set_cons_zero, List.set_cons_succ]
      refine takeY (i := 6) (some 119) (v := .slice (some ⟨b, off, none⟩) n c) rfl rfl (by kernel_rfl) (by kernel_rfl) (by kernel_rfl) (fun _ _ _ h => h) (by rfl) (fun w' hS => by go_simp) hS ?_
      simp only [Act.put, List.setIfInBounds_toArray, List.set_cons_zero, List.set_cons_succ]
      refine takeY (i := 7) (some 120) (v := .slice (some ⟨b, off + 25, none⟩) (n - 25) (c - 25)) rfl rfl (by kernel_rfl) (by kernel_rfl) (by kernel_rfl) (fun _ _ _ h => h) (by rfl) (fun w' hS => by exact slice_in _ _ _ (.tmp 119) b off n c 25 25 rfl rfl rfl rfl (by omega) hc (by omega)) hS ?_
      simp only [Act.put, List.setIfInBounds_toArray, List.set_cons_zero, List.set_cons_succ]
      refine takeC (i := 2) (some 115) 71 #[.slice (some ⟨b, off + 10, none⟩) (n - 10) (c - 10)] (.agg (ndC (fun j => z (10 + j)))) (R := fun w' => Below Wq.heap.size Wq w') rfl rfl (by kernel_rfl) (by rfl) (by go_simp) (nodeAt_any b (off + 10) (n - 10) (c - 10) (fun j => z (10 + j)) Wq (hS.shift 10 _ (by omega)) (by omega) (by omega)) (fun w' hb => row_keep hS (hb.block _ hS.1)) (fun Wn hb1 hS2 => ?_)
      simp only [Act.put, List.setIfInBounds_toArray, List.set_cons_zero, List.set_cons_succ]
      have HDn := Lib.hid (HD.out.below hb1)
      clear HD hS hb1
      have HD := HDn
      have hS := hS2
      clear HDn hS2
      revert hS HD
      generalize Wn = Wq
      intro HD hS
      refine takeY (i := 9) (some 122) (v := .pointer (some ⟨P, 2, none⟩)) rfl rfl (by kernel_rfl) (by kernel_rfl) (by kernel_rfl) (fun _ _ _ h => h) (by rfl) (fun w' hS => by go_simp) hS ?_
      simp only [Act.put, List.setIfInBounds_toArray, List.set_cons_zero, List.set_cons_succ]
      refine takeC (i := 5) (some 118) 72 #[.slice (some ⟨b, off + 17, none⟩) (n - 17) (c - 17)] (.agg (idC (fun j => z (17 + j)))) (R := fun w' => Below Wq.heap.size Wq w') rfl rfl (by kernel_rfl) (by rfl) (by go_simp) (idAt_any b (off + 17) (n - 17) (c - 17) (fun j => z (17 + j)) Wq (hS.shift 17 _ (by omega)) (by omega) (by omega)) (fun w' hb => row_keep hS (hb.block _ hS.1)) (fun Wn hb1 hS2 => ?_)
      simp only [Act.put, List.setIfInBounds_toArray, List.set_cons_zero, List.set_cons_succ]
      have HDn := Lib.hid (HD.out.below hb1)
      clear HD hS hb1
      have HD := HDn
      have hS := hS2
      clear HDn hS2
      revert hS HD
      generalize Wn = Wq
      intro HD hS
      refine takeC (i := 8) (some 121) 72 #[.slice (some ⟨b, off + 25, none⟩) (n - 25) (c - 25)] (.agg (idC (fun j => z (25 + j)))) (R := fun w' => Below Wq.heap.size Wq w') rfl rfl (by kernel_rfl) (by rfl) (by go_simp) (idAt_any b (off + 25) (n - 25) (c - 25) (fun j => z (25 + j)) Wq (hS.shift 25 _ (by omega)) (by omega) (by omega)) (fun w' hb => row_keep hS (hb.block _ hS.1)) (fun Wn hb1 hS2 => ?_)
      simp only [Act.put, List.setIfInBounds_toArray, List.set_cons_zero, List.set_cons_succ]
      have HDn := Lib.hid (HD.out.below hb1)
      clear HD hS hb1
      have HD := HDn
      have hS := hS2
      clear HDn hS2
      revert hS HD
      generalize Wn = Wq
      intro HD hS
      refine takeSt (i := 10) 33 (.tmp 122) (.tmp 115) P 2 (.agg (ndC (fun j => z (10 + j)))) (ndC (fun j => z (10 + j))) (pdC (drSet_so (withT (kdP (z 4)) A m cL) ((fun j => z (10 + j))))) rfl rfl (by kernel_rfl) (by rfl) rfl rfl rfl rfl info_node (nd_all _) HD.out.1 (Nat.le_of_ble_eq_true rfl) (drPut_so _ _) (fun Wn q1 => ⟨row_keep hS (q1.2.2 _ (by have := HD.out.2.2.2.2.2; omega)), ?_⟩)
      simp only [Act.put, List.setIfInBounds_toArray, List.set_cons_zero, List.set_cons_succ]
      have hSn := row_keep hS (q1.2.2 _ (by have := HD.out.2.2.2.2.2; omega))
      have HDn := Lib.hid (HD.out.put (y := (drSet_so (withT (kdP (z 4)) A m cL) ((fun j => z (10 + j))))) q1)
      clear HD hS q1
      have HD := HDn
      have hS := hSn
      clear HDn hSn
      revert hS HD
      generalize Wn = Wq
      intro HD hS
      refine takeY (i := 11) (some 123) (v := .pointer (some ⟨P, 30, none⟩)) rfl rfl (by kernel_rfl) (by kernel_rfl) (by kernel_rfl) (fun _ _ _ h => h) (by rfl) (fun w' hS => by go_simp) hS ?_
      simp only [Act.put, List.setIfInBounds_toArray, List.set_cons_zero, List.set_cons_succ]
      refine takeSt (i := 12) 35 (.tmp 123) (.tmp 118) P 30 (.agg (idC (fun j => z (17 + j)))) (idC (fun j => z (17 + j))) (pdC (drSet_st (drSet_so (withT (kdP (z 4)) A m cL) ((fun j => z (10 + j)))) ((fun j => z (17 + j))))) rfl rfl (by kernel_rfl) (by rfl) rfl rfl rfl rfl info_id (id_all _) HD.out.1 (Nat.le_of_ble_eq_true rfl) (drPut_st _ _) (fun Wn q1 => ⟨row_keep hS (q1.2.2 _ (by have := HD.out.2.2.2.2.2; omega)), ?_⟩)
      simp only [Act.put, List.setIfInBounds_toArray, List.set_cons_zero, List.set_cons_succ]
      have hSn := row_keep hS (q1.2.2 _ (by have := HD.out.2.2.2.2.2; omega))
      have HDn := Lib.hid (HD.out.put (y := (drSet_st (drSet_so (withT (kdP (z 4)) A m cL) ((fun j => z (10 + j)))) ((fun j => z (17 + j))))) q1)
      clear HD hS q1
      have HD := HDn
      have hS := hSn
      clear HDn hSn
      revert hS HD
      generalize Wn = Wq
      intro HD hS
      refine takeY (i := 13) (some 124) (v := .pointer (some ⟨P, 38, none⟩)) rfl rfl (by kernel_rfl) (by kernel_rfl) (by kernel_rfl) (fun _ _ _ h => h) (by rfl) (fun w' hS => by go_simp) hS ?_
      simp only [Act.put, List.setIfInBounds_toArray, List.set_cons_zero, List.set_cons_succ]
      refine takeSt (i := 14) 35 (.tmp 124) (.tmp 121) P 38 (.agg (idC (fun j => z (25 + j)))) (idC (fun j => z (25 + j))) (pdC (drSet_en (drSet_st (drSet_so (withT (kdP (z 4)) A m cL) ((fun j => z (10 + j)))) ((fun j => z (17 + j)))) ((fun j => z (25 + j))))) rfl rfl (by kernel_rfl) (by rfl) rfl rfl rfl rfl info_id (id_all _) HD.out.1 (Nat.le_of_ble_eq_true rfl) (drPut_en _ _) (fun Wn q1 => ⟨row_keep hS (q1.2.2 _ (by have := HD.out.2.2.2.2.2; omega)), ?_⟩)
      simp only [Act.put, List.setIfInBounds_toArray, List.set_cons_zero, List.set_cons_succ]
      have hSn := row_keep hS (q1.2.2 _ (by have := HD.out.2.2.2.2.2; omega))
      have HDn := Lib.hid (HD.out.put (y := (drSet_en (drSet_st (drSet_so (withT (kdP (z 4)) A m cL) ((fun j => z (10 + j)))) ((fun j => z (17 + j)))) ((fun j => z (25 + j))))) q1)
      clear HD hS q1
      have HD := HDn
      have hS := hSn
      clear HDn hSn
      revert hS HD
      generalize Wn = Wq
      intro HD hS
      clear hS
      refine wpAnyH_done (by kernel_rfl) ?_ _
      go_wp2_with fail
      go_meet
      case rel => exact Lib.hid (HD.out.eq (swD_3 z A m cL))
    · as_aux_lemma =>
      clear hk hq
      have f15 : (z 4 == 15) = false := by rw [hk4]; rfl
      have f16 : (z 4 == 16) = false := by rw [hk4]; rfl
      have f17 : (z 4 == 17) = false := by rw [hk4]; rfl
      have f18 : (z 4 == 18) = false := by rw [hk4]; rfl
      have f20 : (z 4 == 20) = false := by rw [hk4]; rfl
      have f24 : (z 4 == 24) = false := by rw [hk4]; rfl
      have f25 : (z 4 == 25) = true := by rw [hk4]; rfl
      clear hk4
      have hHn : 33 ≤ n := by have : hdN 3 = 33 := rfl; omega
      clear hhq hh h17
      go_wp2_with fail
      have HDd := Lib.hid (HD.out.below (bself wq).drew)
      refine wp_region_held_drew (S := fun w' => Row8 w' b off n z) (by kernel_rfl) HDd.out.2.2.1 (fun hS => ?_)
      generalize hWq : wq.drew = Wq at hS HDd ⊢
      clear hWq HD
      have HD := HDd
      clear HDd
      refine takeY (i := 0) (some 113) (v := .slice (some ⟨b, off, none⟩) n c) rfl rfl (by kernel_rfl) (by kernel_rfl) (by kernel_rfl) (fun _ _ _ h => h) (by rfl) (fun w' hS => by go_simp) hS ?_
      simp only [Act.put, List.setIfInBounds_toArray, List.set_cons_zero, List.set_cons_succ]
      refine takeY (i := 1) (some 114) (v := .slice (some ⟨b, off + 10, none⟩) (n - 10) (c - 10)) rfl rfl (by kernel_rfl) (by kernel_rfl) (by kernel_rfl) (fun _ _ _ h => h) (by rfl) (fun w' hS => by exact slice_in _ _ _ (.tmp 113) b off n c 10 10 rfl rfl rfl rfl (by omega) hc (by omega)) hS ?_
      simp only [Act.put, List.setIfInBounds_toArray, List.set_cons_zero, List.set_cons_succ]
      refine takeY (i := 3) (some 116) (v := .slice (some ⟨b, off, none⟩) n c) rfl rfl (by kernel_rfl) (by kernel_rfl) (by kernel_rfl) (fun _ _ _ h => h) (by rfl) (fun w' hS => by go_simp) hS ?_
      simp only [Act.put, List.setIfInBounds_toArray, List.set_cons_zero, List.set_cons_succ]
      refine takeY (i := 4) (some 117) (v := .slice (some ⟨b, off + 17, none⟩) (n - 17) (c - 17)) rfl rfl (by kernel_rfl) (by kernel_rfl) (by kernel_rfl) (fun _ _ _ h => h) (by rfl) (fun w' hS => by exact slice_in _ _ _ (.tmp 116) b off n c 17 17 rfl rfl rfl rfl (by omega) hc (by omega)) hS ?_
      simp only [Act.put, List.setIfInBounds_toArray, List.set_cons_zero, List.set_cons_succ]
      refine takeY (i := 6) (some 119) (v := .slice (some ⟨b, off, none⟩) n c) rfl rfl (by kernel_rfl) (by kernel_rfl) (by kernel_rfl) (fun _ _ _ h => h) (by rfl) (fun w' hS => by go_simp) hS ?_
      simp only [Act.put, List.setIfInBounds_toArray, List.set_cons_zero, List.set_cons_succ]
      refine takeY (i := 7) (some 120) (v := .slice (some ⟨b, off + 25, none⟩) (n - 25) (c - 25)) rfl rfl (by kernel_rfl) (by kernel_rfl) (by kernel_rfl) (fun _ _ _ h => h) (by rfl) (fun w' hS => by exact slice_in _ _ _ (.tmp 119) b off n c 25 25 rfl rfl rfl rfl (by omega) hc (by omega)) hS ?_
      simp only [Act.put, List.setIfInBounds_toArray, List.set_cons_zero, List.set_cons_succ]
      refine takeC (i := 2) (some 115) 71 #[.slice (some ⟨b, off + 10, none⟩) (n - 10) (c - 10)] (.agg (ndC (fun j => z (10 + j)))) (R := fun w' => Below Wq.heap.size Wq w') rfl rfl (by kernel_rfl) (by rfl) (by go_simp) (nodeAt_any b (off + 10) (n - 10) (c - 10) (fun j => z (10 + j)) Wq (hS.shift 10 _ (by omega)) (by omega) (by omega)) (fun w' hb => row_keep hS (hb.block _ hS.1)) (fun Wn hb1 hS2 => ?_)
      simp only [Act.put, List.setIfInBounds_toArray, List.set_cons_zero, List.set_cons_succ]
      have HDn := Lib.hid (HD.out.below hb1)
      clear HD hS hb1
      have HD := HDn
      have hS := hS2
      clear HDn hS2
      revert hS HD
      generalize Wn = Wq
      intro HD hS
      refine takeY (i := 9) (some 122) (v := .pointer (some ⟨P, 2, none⟩)) rfl rfl (by kernel_rfl) (by kernel_rfl) (by kernel_rfl) (fun _ _ _ h => h) (by rfl) (fun w' hS => by go_simp) hS ?_
      simp only [Act.put, List.setIfInBounds_toArray, List.set_cons_zero, List.set_cons_succ]
      refine takeC (i := 5) (some 118) 72 #[.slice (some ⟨b, off + 17, none⟩) (n - 17) (c - 17)] (.agg (idC (fun j => z (17 + j)))) (R := fun w' => Below Wq.heap.size Wq w') rfl rfl (by kernel_rfl) (by rfl) (by go_simp) (idAt_any b (off + 17) (n - 17) (c - 17) (fun j => z (17 + j)) Wq (hS.shift 17 _ (by omega)) (by omega) (by omega)) (fun w' hb => row_keep hS (hb.block _ hS.1)) (fun Wn hb1 hS2 => ?_)
      simp only [Act.put, List.setIfInBounds_toArray, List.set_cons_zero, List.set_cons_succ]
      have HDn := Lib.hid (HD.out.below hb1)
      clear HD hS hb1
      have HD := HDn
      have hS := hS2
      clear HDn hS2
      revert hS HD
      generalize Wn = Wq
      intro HD hS
      refine takeC (i := 8) (some 121) 72 #[.slice (some ⟨b, off + 25, none⟩) (n - 25) (c - 25)] (.agg (idC (fun j => z (25 + j)))) (R := fun w' => Below Wq.heap.size Wq w') rfl rfl (by kernel_rfl) (by rfl) (by go_simp) (idAt_any b (off + 25) (n - 25) (c - 25) (fun j => z (25 + j)) Wq (hS.shift 25 _ (by omega)) (by omega) (by omega)) (fun w' hb => row_keep hS (hb.block _ hS.1)) (fun Wn hb1 hS2 => ?_)
      simp only [Act.put, List.setIfInBounds_toArray, List.set_cons_zero, List.set_cons_succ]
      have HDn := Lib.hid (HD.out.below hb1)
      clear HD hS hb1
      have HD := HDn
      have hS := hS2
      clear HDn hS2
      revert hS HD
      generalize Wn = Wq
      intro HD hS
      refine takeSt (i := 10) 33 (.tmp 122) (.tmp 115) P 2 (.agg (ndC (fun j => z (10 + j)))) (ndC (fun j => z (10 + j))) (pdC (drSet_so (withT (kdP (z 4)) A m cL) ((fun j => z (10 + j))))) rfl rfl (by kernel_rfl) (by rfl) rfl rfl rfl rfl info_node (nd_all _) HD.out.1 (Nat.le_of_ble_eq_true rfl) (drPut_so _ _) (fun Wn q1 => ⟨row_keep hS (q1.2.2 _ (by have := HD.out.2.2.2.2.2; omega)), ?_⟩)
      simp only [Act.put, List.setIfInBounds_toArray, List.set_cons_zero, List.set_cons_succ]
      have hSn := row_keep hS (q1.2.2 _ (by have := HD.out.2.2.2.2.2; omega))
      have HDn := Lib.hid (HD.out.put (y := (drSet_so (withT (kdP (z 4)) A m cL) ((fun j => z (10 + j))))) q1)
      clear HD hS q1
      have HD := HDn
      have hS := hSn
      clear HDn hSn
      revert hS HD
      generalize Wn = Wq
      intro HD hS
      refine takeY (i := 11) (some 123) (v := .pointer (some ⟨P, 30, none⟩)) rfl rfl (by kernel_rfl) (by kernel_rfl) (by kernel_rfl) (fun _ _ _ h => h) (by rfl) (fun w' hS => by go_simp) hS ?_
      simp only [Act.put, List.setIfInBounds_toArray, List.set_cons_zero, List.set_cons_succ]
      refine takeSt (i := 12) 35 (.tmp 123) (.tmp 118) P 30 (.agg (idC (fun j => z (17 + j)))) (idC (fun j => z (17 + j))) (pdC (drSet_st (drSet_so (withT (kdP (z 4)) A m cL) ((fun j => z (10 + j)))) ((fun j => z (17 + j))))) rfl rfl (by kernel_rfl) (by rfl) rfl rfl rfl rfl info_id (id_all _) HD.out.1 (Nat.le_of_ble_eq_true rfl) (drPut_st _ _) (fun Wn q1 => ⟨row_keep hS (q1.2.2 _ (by have := HD.out.2.2.2.2.2; omega)), ?_⟩)
      simp only [Act.put, List.setIfInBounds_toArray, List.set_cons_zero, List.set_cons_succ]
      have hSn := row_keep hS (q1.2.2 _ (by have := HD.out.2.2.2.2.2; omega))
      have HDn := Lib.hid (HD.out.put (y := (drSet_st (drSet_so (withT (kdP (z 4)) A m cL) ((fun j => z (10 + j)))) ((fun j => z (17 + j))))) q1)
      clear HD hS q1
      have HD := HDn
      have hS := hSn
      clear HDn hSn
      revert hS HD
      generalize Wn = Wq
      intro HD hS
      refine takeY (i := 13) (some 124) (v := .pointer (some ⟨P, 38, none⟩)) rfl rfl (by kernel_rfl) (by kernel_rfl) (by kernel_rfl) (fun _ _ _ h => h) (by rfl) (fun w' hS => by go_simp) hS ?_
      simp only [Act.put, List.setIfInBounds_toArray, List.set_cons_zero, List.set_cons_succ]
      refine takeSt (i := 14) 35 (.tmp 124) (.tmp 121) P 38 (.agg (idC (fun j => z (25 + j)))) (idC (fun j => z (25 + j))) (pdC (drSet_en (drSet_st (drSet_so (withT (kdP (z 4)) A m cL) ((fun j => z (10 + j)))) ((fun j => z (17 + j)))) ((fun j => z (25 + j))))) rfl rfl (by kernel_rfl) (by rfl) rfl rfl rfl rfl info_id (id_all _) HD.out.1 (Nat.le_of_ble_eq_true rfl) (drPut_en _ _) (fun Wn q1 => ⟨row_keep hS (q1.2.2 _ (by have := HD.out.2.2.2.2.2; omega)), ?_⟩)
      simp only [Act.put, List.setIfInBounds_toArray, List.set_cons_zero, List.set_cons_succ]
      have hSn := row_keep hS (q1.2.2 _ (by have := HD.out.2.2.2.2.2; omega))
      have HDn := Lib.hid (HD.out.put (y := (drSet_en (drSet_st (drSet_so (withT (kdP (z 4)) A m cL) ((fun j => z (10 + j)))) ((fun j => z (17 + j)))) ((fun j => z (25 + j))))) q1)
      clear HD hS q1
      have HD := HDn
      have hS := hSn
      clear HDn hSn
      revert hS HD
      generalize Wn = Wq
      intro HD hS
      clear hS
      refine wpAnyH_done (by kernel_rfl) ?_ _
      go_wp2_with fail
      go_meet
      case rel => exact Lib.hid (HD.out.eq (swD_3 z A m cL))
    · as_aux_lemma =>
      clear hk hq
      have f15 : (z 4 == 15) = false := by rw [hk4]; rfl
      have f16 : (z 4 == 16) = false := by rw [hk4]; rfl
      have f17 : (z 4 == 17) = false := by rw [hk4]; rfl
      have f18 : (z 4 == 18) = false := by rw [hk4]; rfl
      have f20 : (z 4 == 20) = false := by rw [hk4]; rfl
      have f24 : (z 4 == 24) = false := by rw [hk4]; rfl
      have f25 : (z 4 == 25) = false := by rw [hk4]; rfl
      clear hk4
      have hHn : 17 ≤ n := by have : hdN 4 = 17 := rfl; omega
      clear hhq hh h17
      skip
      have hRW := HD.out.2.2.1
      go_wp2_with (refine wpList_v (op := ⟨some 54, _, _, _, _, _⟩) rfl _ (slice_in _ _ _ (.tmp 53) b off n c 10 10 rfl rfl rfl rfl (by omega) hc (by omega)) ?_)
      refine (nodeAt_any b (off + 10) (n - 10) (c - 10) (fun j => z (10 + j)) wq (hRW.shift 10 _ (by omega)) (by omega) (by omega)).mono ?_
      rintro e w6 ⟨rfl, hb⟩
      have HD6 := Lib.hid (HD.out.below hb)
      clear HD hb hRW
      go_wp2_with (refine wpList_st rfl 33 (.tmp 56) (.tmp 55) rfl P 2 rfl (.agg (ndC (fun j => z (10 + j)))) (ndC (fun j => z (10 + j))) rfl rfl info_node (nd_all _) HD6.out.1 (Nat.le_of_ble_eq_true rfl) (C' := pdC (drSet_so (withT (kdP (z 4)) A m cL) (fun j => z (10 + j)))) (by kernel_rfl) ?_; intro w7 hst7; refine Hid.out ?_)
      refine Lib.hid ?_
      have HD := Lib.hid (HD6.out.put (y := (drSet_so (withT (kdP (z 4)) A m cL) (fun j => z (10 + j)))) hst7)
      clear hst7 HD6
      go_wp2_with fail
      go_meet
      case rel => exact Lib.hid (HD.out.eq (swD_4 z A m cL))
    · as_aux_lemma =>
      clear hk hq
      have f15 : (z 4 == 15) = false := by rw [hk4]; rfl
      have f16 : (z 4 == 16) = false := by rw [hk4]; rfl
      have f17 : (z 4 == 17) = false := by rw [hk4]; rfl
      have f18 : (z 4 == 18) = false := by rw [hk4]; rfl
      have f20 : (z 4 == 20) = false := by rw [hk4]; rfl
      have f24 : (z 4 == 24) = false := by rw [hk4]; rfl
      have f25 : (z 4 == 25) = false := by rw [hk4]; rfl
      clear hk4
      have hHn : 17 ≤ n := by have : hdN 4 = 17 := rfl; omega
      clear hhq hh h17
      skip
      have hRW := HD.out.2.2.1
      go_wp2_with (refine wpList_v (op := ⟨some 54, _, _, _, _, _⟩) rfl _ (slice_in _ _ _ (.tmp 53) b off n c 10 10 rfl rfl rfl rfl (by omega) hc (by omega)) ?_)
      refine (nodeAt_any b (off + 10) (n - 10) (c - 10) (fun j => z (10 + j)) wq (hRW.shift 10 _ (by omega)) (by omega) (by omega)).mono ?_
      rintro e w6 ⟨rfl, hb⟩
      have HD6 := Lib.hid (HD.out.below hb)
      clear HD hb hRW
      go_wp2_with (refine wpList_st rfl 33 (.tmp 56) (.tmp 55) rfl P 2 rfl (.agg (ndC (fun j => z (10 + j)))) (ndC (fun j => z (10 + j))) rfl rfl info_node (nd_all _) HD6.out.1 (Nat.le_of_ble_eq_true rfl) (C' := pdC (drSet_so (withT (kdP (z 4)) A m cL) (fun j => z (10 + j)))) (by kernel_rfl) ?_; intro w7 hst7; refine Hid.out ?_)
      refine Lib.hid ?_
      have HD := Lib.hid (HD6.out.put (y := (drSet_so (withT (kdP (z 4)) A m cL) (fun j => z (10 + j)))) hst7)
      clear hst7 HD6
      go_wp2_with fail
      go_meet
      case rel => exact Lib.hid (HD.out.eq (swD_4 z A m cL))
  case rest =>
  clear HD c0
  have HD := hcut
  clear hcut
  have c0 : wc.cell? ⟨P, 0, none⟩ = some (.int .u8 (z 4)) := (HD.out.1.cell 0).trans (by rw [pdC_0, swP_kd])
  have HHE := Lib.hid (hello_q (z 4) q HKQ.out.1 HKQ.out.2)
  obtain ⟨bh, hbh⟩ : ∃ bh, decide (q ≤ 1) = bh := ⟨_, rfl⟩
  rw [hbh] at HHE
  have HBH := Lib.hid hbh
  clear hbh
  go_wp2_with fail
  refine (HHE.out _).mono ?_
  rintro e wx ⟨rfl, rfl⟩
  go_upto_if 127 with fail
  go_cut [] (fun wd => Hid (DrS w P X b off n z B A m cL L (withT (rdP q z) A m cL) wd))
  case first =>
    clear c0 HH HM HI HPS HAN fl1 fl8 fl9 fH f30 HHE
    cases bh with
    | true =>
      have hq1 : q ≤ 1 := of_decide_eq_true HBH.out
      have hhq := HHQ.out
      have hRW := HD.out.2.2.1
      have hHn : 20 ≤ n := by
        rcases (by omega : q = 0 ∨ q = 1) with rfl | rfl
        · have : hdN 0 = 20 := rfl
          omega
        · have : hdN 1 = 27 := rfl
          omega
      clear hhq hh h17 HHQ HKQ HBH
      go_wp2_with (refine wpList_v (op := ⟨some 129, _, _, _, _, _⟩) rfl _ (slice_in _ _ _ (.tmp 128) b off n c 9 9 rfl rfl rfl rfl (by omega) hc (by omega)) ?_)
      refine (nodeAt_any b (off + 9) (n - 9) (c - 9) (fun j => z (9 + j)) wc (hRW.shift 9 _ (by omega)) (by omega) (by omega)).mono ?_
      rintro e w6 ⟨rfl, hb⟩
      have HD6 := Lib.hid (HD.out.below hb)
      clear HD hb hRW
      go_wp2_with (refine wpList_st rfl 33 (.tmp 131) (.tmp 130) rfl P 2 rfl (.agg (ndC (fun j => z (9 + j)))) (ndC (fun j => z (9 + j))) rfl rfl info_node (nd_all _) HD6.out.1 (Nat.le_of_ble_eq_true rfl) (C' := pdC (setSo (swP q z A m cL) (fun j => z (9 + j)))) (by kernel_rfl) ?_; intro w7 hst7; refine Hid.out ?_)
      refine Lib.hid ?_
      have HD7 := Lib.hid (HD6.out.put (y := setSo (swP q z A m cL) (fun j => z (9 + j))) hst7)
      clear hst7 HD6
      go_wp2_with (refine wpList_st rfl 5 (.tmp 133) (.const (.int .u8 0)) rfl P 8 rfl (.int .u8 0) #[.int .u8 0] rfl rfl (by kernel_rfl) (by kernel_rfl) HD7.out.1 (Nat.le_of_ble_eq_true rfl) (C' := pdC (setSo (swP q z A m cL) (cutSys (fun j => z (9 + j))))) (by kernel_rfl) ?_; intro w8 hst8; refine Hid.out ?_)
      refine Lib.hid ?_
      have HD8 := Lib.hid (HD7.out.put (y := setSo (swP q z A m cL) (cutSys (fun j => z (9 + j)))) hst8)
      clear hst8 HD7
      go_wp2_with fail
      go_meet
      case rel => exact Lib.hid (HD8.out.eq (by rcases (by omega : q = 0 ∨ q = 1) with rfl | rfl <;> kernel_rfl))
    | false =>
      have hq1 : ¬ q ≤ 1 := of_decide_eq_false HBH.out
      clear HBH
      go_wp2_with fail
      go_meet
      case rel => exact Lib.hid (HD.out.eq (by unfold swP; rw [if_neg (by omega), if_neg (by omega)]))
  case rest =>
  clear HD c0 HHE HBH
  have HD := hcut
  clear hcut
  obtain ⟨x, hx⟩ : ∃ x, withT (rdP q z) A m cL = x := ⟨_, rfl⟩
  rw [hx] at HD
  have hxk : x.kd = z 4 := by rw [← hx]; exact rdP_kd q z
  have hxok : PdOk x := by rw [← hx]; exact rdP_ok q HKQ.out.2 z HD.out.2.2.1.2.2
  have hxf : fitP x q = fitP (rdP q z) q := by rw [← hx]; exact fit_withT _ _ _ _ _
  have hxm : x.A = A ∧ x.m = m ∧ x.c = cL := by rw [← hx]; exact ⟨rfl, rfl, rfl⟩
  have HX := Lib.hid hx
  have HXK := Lib.hid hxk
  have HXO := Lib.hid hxok
  have HXM := Lib.hid hxm
  clear hx hxk hxok hxm
  have HF := refFields_any x q (by rw [HXK.out]; exact HKQ.out.1) HKQ.out.2 HXO.out
  obtain ⟨r, hr⟩ : ∃ r, fitP (rdP q z) q = r := ⟨_, rfl⟩
  rw [hr] at hxf
  rw [hxf] at HF
  have HF := Lib.hid HF
  have HRR := Lib.hid hr
  have HXF := Lib.hid hxf
  clear hr hxf
  go_wp2_with (refine wpList_ldr (op := ⟨some 134, _, _, _, _, _⟩) (by rfl) 39 (.tmp 4) rfl P 0 rfl (pdC x) _ (PdT.all (t := 39) (p := x) HD.out.1) Tryz.underlying39 rfl info_pdR ?_; refine Hid.out ?_)
  refine Lib.hid ?_
  go_wp2_with fail
  refine (HF.out _).mono ?_
  rintro e wf ⟨rfl, hb⟩
  have HDn := Lib.hid (HD.out.below hb)
  clear HD hb HF
  have HD := HDn
  clear HDn
  cases r with
  | false =>
    have HX4 := Lib.hid HD.out.2.1
    have HB4 := Lib.hid HD.out.2.2.2.1
    go_wp2_with (first
      | (refine wpList_v (op := ⟨some 137, _, _, _, _, _⟩) rfl _ (build_0d _ _ rfl _) ?_)
      | (refine wpList_st rfl 39 (.tmp 2) (.tmp 137) rfl X 0 rfl (.agg (pdC pd0)) (pdC pd0) rfl rfl info_pdR (pdC_one _) HX4.out (Nat.le_of_ble_eq_true rfl) (pd_all _ _) ?_; intro w2 hst2; refine Hid.out ?_))
    refine Lib.hid ?_
    have HX2 : Hid (PdT 39 w2 X pd0) := Lib.hid hst2.1
    have HB2 : Hid (Below w.heap.size w w2) := Lib.hid (HB4.out.trans (hst2.2.1 _ hXle))
    clear hst2
    go_wp2_with fail
    refine bodyPost_ret (results_dr rfl _ w2 X pd0 (.int .i64 3) rfl HX2.out rfl) rfl (.inl ⟨fun h => Bool.noConfusion (HRR.out.symm.trans h.2.1), rfl, HB2.out⟩)
  | true =>
    have hsz : sz L m = n - H := (sz_it HI.out m (Nat.le_refl _)).trans HPS.out
    have hbad := good_it (z := tlZ q z) (fun j => HD.out.2.2.1.2.2 _) HI.out (by rw [HPS.out]; omega)
    have HW := Lib.hid (fun W (hin : PdIn W x L) => refWrite_any x q (by rw [HXK.out]; exact HKQ.out.1) HKQ.out.2 HXO.out HXF.out L (by rw [HXM.out.2.1]; exact hbad) (by rw [HXM.out.2.1, hsz, HHQ.out]; omega) W hin)
    rw [HXM.out.2.1, hsz, HHQ.out, show H + (n - H) = n by omega] at HW
    have HBI := Lib.hid (back_iff q HKQ.out.2 z n m L A cL HKQ.out.1 h8 (by rw [HHQ.out]; exact hh) hn2 HD.out.2.2.1.2.2 HI.out (by rw [HHQ.out]; exact HPS.out))
    have HAI := Lib.hid (fun (h2 : q = 2) => all_iff x L n (by subst h2; have : hdN 2 = 27 := rfl; have := HHQ.out; omega) (by rw [HXM.out.2.1, hsz]; subst h2; have := HHQ.out; omega) z)
    rw [HX.out] at HBI
    obtain ⟨y, hy⟩ : ∃ y, pdZ x q L = y := ⟨_, rfl⟩
    rw [hy] at HW HBI
    have HY := Lib.hid hy
    clear hsz hbad hy
    go_wp2_with (refine wpList_ldr (op := ⟨some 138, _, _, _, _, _⟩) (by rfl) 39 (.tmp 4) rfl P 0 rfl (pdC x) _ (PdT.all (t := 39) (p := x) HD.out.1) Tryz.underlying39 rfl info_pdR ?_; refine Hid.out ?_)
    refine Lib.hid ?_
    go_wp2_with fail
    refine (HW.out _ (by
      have hoT := HD.out.2.2.2.2.1
      obtain ⟨A9, c9, e9, h1, h2, _, h4⟩ := hoT.shape
      cases e9
      exact ⟨by rw [HXM.out.1, HXM.out.2.1]; exact h4, by rw [HXM.out.2.1, HXM.out.2.2]; exact h1, by rw [HXM.out.2.2]; exact Nat.le_trans h2 (by decide)⟩)).mono ?_
    rintro e wg ⟨g1, c1, rfl, hg1, hO1, hb⟩
    have HDn := Lib.hid (HD.out.below hb)
    have HO1 := Lib.hid hO1
    have hsg := hb.size
    clear HD hb HW hO1
    have HD := HDn
    clear HDn
    go_wp2_with fail
    refine (twin_any (some ⟨b, off, none⟩) n c z wg ⟨.inr ⟨b, off, rfl, HD.out.2.2.1⟩, HD.out.2.2.1.2.2⟩ (fun h => by cases h) (by omega)).mono ?_
    rintro e wh ⟨g2, c2, rfl, hg2, hO2, hb⟩
    have HDn := Lib.hid (HD.out.below hb)
    have HO1n := Lib.hid (HO1.out.below hb HO1.out.lt)
    have HO2 := Lib.hid hO2
    have hg12 : g1 ≠ g2 := by have := HO1.out.lt; omega
    have hPg : P ≠ g2 ∧ b ≠ g2 ∧ X ≠ g2 := by have := HD.out.1.lt; have := HD.out.2.2.2.2.2; omega
    have hwg2 : w.heap.size ≤ g2 := by have := HD.out.2.2.2.1.size; omega
    have HDg := HD
    have HO1g := HO1
    have HBg := Lib.hid hb
    clear HD HO1 hb hO2
    have HD := HDn
    have HO1 := HO1n
    clear HDn HO1n
    have c0 : wh.cell? ⟨P, 0, none⟩ = some (.int .u8 (z 4)) := (HD.out.1.cell 0).trans (by rw [pdC_0, HXK.out])
    have HLE := Lib.hid (lsp_q (z 4) q HKQ.out.1 HKQ.out.2)
    obtain ⟨bl, hbl⟩ : ∃ bl, decide (q = 2) = bl := ⟨_, rfl⟩
    rw [hbl] at HLE
    have HBL := Lib.hid hbl
    clear hbl
    go_wp2_with fail
    refine (HLE.out _).mono ?_
    rintro e wx ⟨rfl, rfl⟩
    go_upto_if 144 with fail
    go_cut [] (fun wi => ∃ yz, Hid (∀ j, j < n → (q = 2 → j ≠ 24 ∧ j ≠ 25) → yz j = z j) ∧ Hid (q = 2 → yz 24 = y 24 ∧ yz 25 = y 25) ∧ Hid (Rd wi (some ⟨g1, 0, none⟩) n y) ∧ Hid (Rd wi (some ⟨g2, 0, none⟩) n yz) ∧ Hid (DrS w P X b off n z B A m cL L x wi))
    case first =>
      cases bl with
      | true =>
        have hq2 : q = 2 := of_decide_eq_true HBL.out
        have hHn : 27 ≤ n := by
          have := HHQ.out
          subst hq2
          have : hdN 2 = 27 := rfl
          omega
        have yb := HO1.out.2
        have c24 := own_at HO1.out 24 (by omega)
        have c25 := own_at HO1.out 25 (by omega)
        have d24 := own_at HO2.out 24 (by omega)
        have d25 := own_at HO2.out 25 (by omega)
        have f2 := Own8.free HO2.out
        clear HH HM HI HPS HAN fl1 fl8 fl9 fH f30 HLE HBL HBI HAI c0
        go_upto_region 31 with fail
        go_region
        all_goals (go_wp2_with fail)
        all_goals go_meet
        case rel =>
          obtain ⟨yz, l1, l2, l3, l4, l5⟩ := lay_two q HDg.out HO1g.out HBg.out HO2.out hg2 hHn
          exact ⟨yz, Lib.hid fun j hj hc2 => l1.out j hj hc2 hq2, l2, l3, l4, l5⟩
      | false =>
        have hq2 : ¬ q = 2 := of_decide_eq_false HBL.out
        clear HBL
        go_wp2_with fail
        go_meet
        case rel => exact ⟨z, Lib.hid fun _ _ _ => rfl, Lib.hid fun h => absurd h hq2, Lib.hid HO1.out.rd, Lib.hid HO2.out.rd, HD⟩
    case rest =>
    clear HD c0 HLE HBL HO1 HO2 HDg HO1g HBg
    obtain ⟨yz, HYZ, HYC, HR1, HR2, HDi⟩ := hcut
    have HP := Lib.hid HDi.out.1
    have HX0 := Lib.hid HDi.out.2.1
    have HRW := Lib.hid HDi.out.2.2.1
    have HB := Lib.hid HDi.out.2.2.2.1
    have HOT := Lib.hid HDi.out.2.2.2.2.1
    have hPB := HDi.out.2.2.2.2.2
    clear HDi
    go_wp2_with fail
    by_cases hE : FormOk z n
    · have hE1 := HBI.out.2 hE
      have hsame : ∀ j, j < n → y j = yz j := fun j hj => by
        by_cases hc2 : q = 2 → j ≠ 24 ∧ j ≠ 25
        · rw [hE1 j hj hc2, HYZ.out j hj hc2]
        · have hq2 : q = 2 := Classical.byContradiction fun h => hc2 fun h' => absurd h' h
          obtain ⟨e1, e2⟩ := HYC.out hq2
          by_cases h24 : j = 24
          · rw [h24, e1]
          · by_cases h25 : j = 25
            · rw [h25, e2]
            · exact absurd (fun _ => ⟨h24, h25⟩) hc2
      refine (same_yes (some ⟨g1, 0, none⟩) (some ⟨g2, 0, none⟩) n c1 c2 y yz _ HR1.out HR2.out hsame (by omega)).mono ?_
      rintro e wj ⟨rfl, k1, rfl⟩
      have hbd := below_drewN wc k1
      have HPn := Lib.hid (HP.out.below hbd HP.out.lt)
      have HX0n := Lib.hid (HX0.out.below hbd HX0.out.lt)
      have HRWn := Lib.hid (row_keep HRW.out (hbd.block _ HRW.out.1))
      have HBn := Lib.hid (HB.out.trans (hbd.mono HB.out.size))
      have HOTn := Lib.hid (HOT.out.below hbd)
      have HR1n := Lib.hid (HR1.out.below hbd rfl)
      obtain ⟨wj, hwj⟩ : ∃ wj, wc.drewN k1 = wj := ⟨_, rfl⟩
      rw [hwj] at HPn HX0n HRWn HBn HOTn HR1n ⊢
      clear hwj hbd HP HX0 HRW HB HOT HR1 HR2 hsame
      go_wp2_with fail
      have hall : (∀ j, j < n → y j = z j) ↔ (q = 2 → rightB (fun j => z (12 + j)) 12 (n - 12) = true) := by
        by_cases hq2 : q = 2
        · have h1 := HAI.out hq2 (fun j hj hne => by rw [← hq2, HY.out]; exact hE1 j hj (fun _ => hne))
          rw [← hq2, HY.out] at h1
          rw [h1]
          exact ⟨fun h _ => h, fun h => h hq2⟩
        · exact ⟨fun _ h => absurd h hq2, fun _ j hj => hE1 j hj (fun h => absurd h hq2)⟩
      have hOk : DrOk q z n m := ⟨by rw [HHQ.out]; exact HPS.out, HRR.out, hE⟩
      by_cases hS : ∀ j, j < n → y j = z j
      · refine (same_yes (some ⟨g1, 0, none⟩) (some ⟨b, off, none⟩) n c1 c y z _ HR1n.out ⟨.inr ⟨b, off, rfl, HRWn.out⟩, HRWn.out.2.2⟩ hS (by omega)).mono ?_
        rintro e wk ⟨rfl, k2, rfl⟩
        have hbd := below_drewN wj k2
        have HPm := Lib.hid (HPn.out.below hbd HPn.out.lt)
        have HX0m := Lib.hid (HX0n.out.below hbd HX0n.out.lt)
        have HBm := Lib.hid (HBn.out.trans (hbd.mono HBn.out.size))
        have HOTm := Lib.hid (HOTn.out.below hbd)
        obtain ⟨wk, hwk⟩ : ∃ wk, wj.drewN k2 = wk := ⟨_, rfl⟩
        rw [hwk] at HPm HX0m HBm HOTm ⊢
        have hR := hall.1 hS
        clear hwk hbd HPn HX0n HRWn HBn HOTn HR1n
        go_wp2_with (first
          | (refine wpList_ldr (op := ⟨some 165, _, _, _, _, _⟩) (by rfl) 39 (.tmp 4) rfl P 0 rfl (pdC x) _ (PdT.all (t := 39) (p := x) HPm.out) Tryz.underlying39 rfl info_pdR ?_)
          | (refine wpList_st rfl 39 (.tmp 2) (.tmp 165) rfl X 0 rfl (.agg (pdC x)) (pdC x) rfl rfl info_pdR (pdC_one _) HX0m.out (Nat.le_of_ble_eq_true rfl) (pd_all _ _) ?_; intro wl hstl; refine Hid.out ?_))
        refine Lib.hid ?_
        have HXl : Hid (PdT 39 wl X x) := Lib.hid hstl.1
        have HBl : Hid (Below w.heap.size w wl) := Lib.hid (HBm.out.trans (hstl.2.1 _ hXle))
        have HOTl : Hid (OwnT wl B (.slice A m cL) m L) := Lib.hid (HOTm.out.far hstl (by omega))
        clear hstl
        go_wp2_with fail
        refine bodyPost_ret (results_dr rfl _ wl X x (.int .i64 0) rfl HXl.out rfl) rfl (.inr (.inr ⟨hOk, hR, A, cL, L, by rw [HX.out], ownT_mono HOTl.out HWB, HI.out, HAN.out.1, HAN.out.2.1, HAN.out.2.2, HBl.out⟩))
      · refine (same_no (some ⟨g1, 0, none⟩) (some ⟨b, off, none⟩) n n c1 c y z _ HR1n.out ⟨.inr ⟨b, off, rfl, HRWn.out⟩, HRWn.out.2.2⟩ (fun h => hS h.2) (by omega) (by omega)).mono ?_
        rintro e wk ⟨rfl, k2, rfl⟩
        have hbd := below_drewN wj k2
        have HX4 := Lib.hid (HX0n.out.below hbd HX0n.out.lt)
        have HB4 := Lib.hid (HBn.out.trans (hbd.mono HBn.out.size))
        obtain ⟨wk, hwk⟩ : ∃ wk, wj.drewN k2 = wk := ⟨_, rfl⟩
        rw [hwk] at HX4 HB4 ⊢
        have hNR : q = 2 ∧ rightB (fun j => z (12 + j)) 12 (n - 12) = false := by
          have h1 : ¬ (q = 2 → rightB (fun j => z (12 + j)) 12 (n - 12) = true) := fun h => hS (hall.2 h)
          refine ⟨Classical.byContradiction fun h => h1 fun h' => absurd h' h, ?_⟩
          cases hb : rightB (fun j => z (12 + j)) 12 (n - 12)
          · rfl
          · exact absurd (fun _ => hb) h1
        clear hwk hbd HPn HX0n HRWn HBn HOTn HR1n
        go_wp2_with (first
          | (refine wpList_v (op := ⟨some 164, _, _, _, _, _⟩) rfl _ (build_0d _ _ rfl _) ?_)
          | (refine wpList_st rfl 39 (.tmp 2) (.tmp 164) rfl X 0 rfl (.agg (pdC pd0)) (pdC pd0) rfl rfl info_pdR (pdC_one _) HX4.out (Nat.le_of_ble_eq_true rfl) (pd_all _ _) ?_; intro w2 hst2; refine Hid.out ?_))
        refine Lib.hid ?_
        have HX2 : Hid (PdT 39 w2 X pd0) := Lib.hid hst2.1
        have HB2 : Hid (Below w.heap.size w w2) := Lib.hid (HB4.out.trans (hst2.2.1 _ hXle))
        clear hst2
        go_wp2_with fail
        refine bodyPost_ret (results_dr rfl _ w2 X pd0 (.int .i64 8) rfl HX2.out rfl) rfl (.inr (.inl ⟨hOk, hNR.1, hNR.2, rfl, HB2.out⟩))
    · have hdiff : ¬ (n = n ∧ ∀ j, j < n → y j = yz j) := fun h => hE (HBI.out.1 fun j hj hc2 => by rw [h.2 j hj, HYZ.out j hj hc2])
      refine (same_no (some ⟨g1, 0, none⟩) (some ⟨g2, 0, none⟩) n n c1 c2 y yz _ HR1.out HR2.out hdiff (by omega) (by omega)).mono ?_
      rintro e wj ⟨rfl, k1, rfl⟩
      have hbd := below_drewN wc k1
      have HX4 := Lib.hid (HX0.out.below hbd HX0.out.lt)
      have HB4 := Lib.hid (HB.out.trans (hbd.mono HB.out.size))
      obtain ⟨wj, hwj⟩ : ∃ wj, wc.drewN k1 = wj := ⟨_, rfl⟩
      rw [hwj] at HX4 HB4 ⊢
      clear hwj hbd HP HX0 HRW HB HOT HR1 HR2
      go_wp2_with (first
        | (refine wpList_v (op := ⟨some 159, _, _, _, _, _⟩) rfl _ (build_0d _ _ rfl _) ?_)
        | (refine wpList_st rfl 39 (.tmp 2) (.tmp 159) rfl X 0 rfl (.agg (pdC pd0)) (pdC pd0) rfl rfl info_pdR (pdC_one _) HX4.out (Nat.le_of_ble_eq_true rfl) (pd_all _ _) ?_; intro w2 hst2; refine Hid.out ?_))
      refine Lib.hid ?_
      have HX2 : Hid (PdT 39 w2 X pd0) := Lib.hid hst2.1
      have HB2 : Hid (Below w.heap.size w w2) := Lib.hid (HB4.out.trans (hst2.2.1 _ hXle))
      clear hst2
      go_wp2_with fail
      refine bodyPost_ret (results_dr rfl _ w2 X pd0 (.int .i64 3) rfl HX2.out rfl) rfl (.inl ⟨fun h => hE h.2.2, rfl, HB2.out⟩)
end Go.Proofs.YtljkcpjkbmbphaaGreat

/- Read and the document's DocRead answer alike. Each theorem states its conditions. -/
namespace Go.Proofs.YtljkcpjkbmbphaaGreat
open Go.RowKit
set_option linter.unusedVariables false

/-- both say no, with one error -/
def BothNo (n : Nat) (z : Nat → Int) (E : Int) : Prop :=
  (∀ (A : Option Addr) (c : Nat) (w : World), Rd w A n z → n ≤ c → c ≤ maxLen → Calls Tryz.prog 68 #[.slice A n c] w (RdErr w E)) ∧
  ∀ (A : Option Addr) (c : Nat) (w : World), Rd w A n z → n ≤ c → c ≤ maxLen → Calls Tryz.prog 47 #[.slice A n c] w (RdErr w E)
/-- both say what they read -/
def BothYes (n : Nat) (z : Nat → Int) (m : Nat) : Prop :=
  (∀ (A : Option Addr) (c : Nat) (w : World), Rd w A n z → n ≤ c → c ≤ maxLen → Calls Tryz.prog 68 #[.slice A n c] w (RdOk w (cls (z 4)) z m)) ∧
  ∀ (A : Option Addr) (c : Nat) (w : World), Rd w A n z → n ≤ c → c ≤ maxLen → Calls Tryz.prog 47 #[.slice A n c] w (RdOk w (cls (z 4)) z m)
theorem drP_no {w : World} {q : Nat} {z : Nat → Int} {n m : Nat} {e : Ending} {w' : World} (h : DrP w q z n m e w') (hn : ¬ DrOk q z n m) : RdErr w 3 e w' := by
  rcases h with ⟨_, h⟩ | ⟨h, _⟩ | ⟨h, _⟩
  · exact h
  · exact absurd h hn
  · exact absurd h hn
theorem drP_sum {w : World} {q : Nat} {z : Nat → Int} {n m : Nat} {e : Ending} {w' : World} (h : DrP w q z n m e w') (hn : DrOk q z n m) (h2 : q = 2) (hr : rightB (fun j => z (12 + j)) 12 (n - 12) = false) : RdErr w 8 e w' := by
  rcases h with ⟨h, _⟩ | ⟨_, _, _, h⟩ | ⟨_, h, _⟩
  · exact absurd hn h
  · exact h
  · have := h h2
    rw [hr] at this
    cases this
theorem drP_yes {w : World} {q : Nat} {z : Nat → Int} {n m : Nat} {e : Ending} {w' : World} (h : DrP w q z n m e w') (hn : DrOk q z n m) (hr : q = 2 → rightB (fun j => z (12 + j)) 12 (n - 12) = true) : RdOk w q z m e w' := by
  rcases h with ⟨h, _⟩ | ⟨_, h2, h, _⟩ | ⟨_, _, h⟩
  · exact absurd hn h
  · have := hr h2
    rw [h] at this
    cases this
  · exact h
theorem both_rd (n : Nat) (z : Nat → Int) : (∃ E : Int, (E = 2 ∨ E = 3 ∨ E = 8) ∧ BothNo n z E) ∨ ∃ m, n ≤ 1492 ∧ GoodZ z n m ∧ BothYes n z m := by
  by_cases hl : 1492 < n
  · exact .inl ⟨2, .inl rfl, fun A c w hr hc hcm => rd_long A n c w hl, fun A c w hr hc hcm => dr_long A n c w hl⟩
  have hn2 : n ≤ 1492 := by omega
  by_cases hf : FormOk z n
  · obtain ⟨h8, hq, hh, h1, h2⟩ := hf
    obtain ⟨m, hm1, hm2⟩ := pos_cases (tlZ (cls (z 4)) z) (n - hdN (cls (z 4)))
    have hE : Ends (tlZ (cls (z 4)) z) (n - hdN (cls (z 4))) m := ⟨hm1, hm2⟩
    have hf : FormOk z n := ⟨h8, hq, hh, h1, h2⟩
    have hM : ∀ (b off c : Nat) (w : World), Row8 w b off n z → n ≤ c → c ≤ maxLen → Calls Tryz.prog 47 #[.slice (some ⟨b, off, none⟩) n c] w (DrP w (cls (z 4)) z n m) :=
      fun b off c w hr hc hcm => dr_main b off n c z w hr hc hcm hn2 h8 _ rfl hq hh m hE
    cases hft : fitP (rdP (cls (z 4)) z) (cls (z 4))
    · refine .inl ⟨3, .inr (.inl rfl), fun A c w hr hc hcm => ?_, fun A c w hr hc hcm => ?_⟩
      · obtain ⟨b, off, rfl, hr2⟩ := hr.row (by omega)
        refine rd_formW (some ⟨b, off, none⟩) n c z w hr hn2 fun W hbW => ?_
        refine (rf_good b off n c z W (hr2.below' hbW) hc hcm hn2 hf false hft).mono fun e w' h => ?_
        exact ⟨_, _, _, _, h.1, h.2⟩
      · obtain ⟨b, off, rfl, hr2⟩ := hr.row (by omega)
        exact (hM b off c w hr2 hc hcm).mono fun e w' h => drP_no h fun hk => Bool.noConfusion (hft.symm.trans hk.2.1)
    · by_cases hp : pos (tlZ (cls (z 4)) z) m = n - hdN (cls (z 4))
      · have hok : DrOk (cls (z 4)) z n m := ⟨hp, hft, hf⟩
        by_cases h22 : cls (z 4) = 2
        · cases hrb : rightB (fun j => z (12 + j)) 12 (n - 12)
          · refine .inl ⟨8, .inr (.inr rfl), fun A c w hr hc hcm => ?_, fun A c w hr hc hcm => ?_⟩
            · obtain ⟨b, off, rfl, hr2⟩ := hr.row (by omega)
              exact rd_sum b off n c z w hr2 hc hcm hn2 _ rfl hf hft m hE hp h22 hrb
            · obtain ⟨b, off, rfl, hr2⟩ := hr.row (by omega)
              exact (hM b off c w hr2 hc hcm).mono fun e w' h => drP_sum h hok h22 hrb
          · have hg : GoodZ z n m := ⟨hf, hft, hE, hp, fun _ => hrb⟩
            refine .inr ⟨m, hn2, hg, fun A c w hr hc hcm => read_good A n c z w hr hc hcm hn2 m hg, fun A c w hr hc hcm => ?_⟩
            obtain ⟨b, off, rfl, hr2⟩ := hr.row (by omega)
            exact (hM b off c w hr2 hc hcm).mono fun e w' h => drP_yes h hok fun _ => hrb
        · have hg : GoodZ z n m := ⟨hf, hft, hE, hp, fun h => absurd h h22⟩
          refine .inr ⟨m, hn2, hg, fun A c w hr hc hcm => read_good A n c z w hr hc hcm hn2 m hg, fun A c w hr hc hcm => ?_⟩
          obtain ⟨b, off, rfl, hr2⟩ := hr.row (by omega)
          exact (hM b off c w hr2 hc hcm).mono fun e w' h => drP_yes h hok fun h => absurd h h22
      · refine .inl ⟨3, .inr (.inl rfl), fun A c w hr hc hcm => ?_, fun A c w hr hc hcm => ?_⟩
        · obtain ⟨b, off, rfl, hr2⟩ := hr.row (by omega)
          exact rd_split b off n c z w hr2 hc hcm hn2 _ rfl hf hft m hE hp
        · obtain ⟨b, off, rfl, hr2⟩ := hr.row (by omega)
          exact (hM b off c w hr2 hc hcm).mono fun e w' h => drP_no h fun hk => hp hk.1
  · refine .inl ⟨3, .inr (.inl rfl), fun A c w hr hc hcm => read_form A n c z w hr hc hcm hn2 hf, fun A c w hr hc hcm => ?_⟩
    by_cases h8 : n < 8
    · exact dr_short A n c w hn2 h8
    · obtain ⟨b, off, rfl, hr2⟩ := hr.row (by omega)
      have hcl := cls_le (z 4)
      by_cases h5 : cls (z 4) = 5
      · exact dr_kind b off n c z w hr2 hn2 (by omega) h5
      · by_cases hh : n < hdN (cls (z 4))
        · exact dr_head b off n c z w hr2 hn2 (by omega) _ rfl (by omega) hh
        · obtain ⟨m, hm1, hm2⟩ := pos_cases (tlZ (cls (z 4)) z) (n - hdN (cls (z 4)))
          exact (dr_main b off n c z w hr2 hc hcm hn2 (by omega) _ rfl (by omega) (by omega) m ⟨hm1, hm2⟩).mono fun e w' h => drP_no h fun hk => hf hk.2.2
end Go.Proofs.YtljkcpjkbmbphaaGreat

/- What a nil store's Put and the document's answer of any bytes. Each theorem states its conditions. -/
namespace Go.Proofs.YtljkcpjkbmbphaaGreat
open Go.RowKit
set_option linter.unusedVariables false

theorem both_nil (n : Nat) (z : Nat → Int) : ∃ E : Int, (E = 0 ∨ E = 2 ∨ E = 3 ∨ E = 8) ∧
    (∀ (A : Option Addr) (c : Nat) (w : World), Rd w A n z → n ≤ c → c ≤ maxLen → Calls Tryz.prog 14 #[.pointer none, .slice A n c] w fun e w' => e = .returned (.tuple #[.int .i64 0, .int .i64 (nilE E)]) ∧ Below w.heap.size w w') ∧
    ∀ (A : Option Addr) (c : Nat) (w : World), Rd w A n z → n ≤ c → c ≤ maxLen → Calls Tryz.prog 16 #[.pointer none, .slice A n c] w fun e w' => e = .returned (.tuple #[.int .i64 0, .int .i64 (nilE E)]) ∧ Below w.heap.size w w' := by
  rcases both_rd n z with ⟨E, hE, hb⟩ | ⟨m, hn2, hg, hb⟩
  · exact ⟨E, .inr hE, fun A c w hr hc hcm => put_nil A n c E (.inr hE) w ((read_err A n c w E hE (hb.1 A c w hr hc hcm)).mono fun e w' h => ⟨_, h⟩), fun A c w hr hc hcm => docPut_no A n c E hE w (hb.2 A c w hr hc hcm)⟩
  · by_cases hq : cls (z 4) = 2
    · have h27 : 27 ≤ n := by
        have h1 := hg.1.2.2.1
        rw [hq] at h1
        have h2 : hdN 2 = 27 := rfl
        omega
      refine ⟨0, .inl rfl, fun A c w hr hc hcm => put_nil A n c 0 (.inl rfl) w ?_, fun A c w hr hc hcm => ?_⟩
      · refine (read_yes A n c z (cls (z 4)) m w rfl h27 hr hc hcm (hb.1 A c w hr hc hcm)).mono fun e w' h => ?_
        rcases h with ⟨_, g, h1, _, _, h2⟩ | ⟨h1, _⟩
        · exact ⟨_, h1, h2⟩
        · exact absurd hq h1
      · have h := docPut_yes A n c z (cls (z 4)) m w (hb.2 A c w hr hc hcm) rfl
        rw [if_pos hq] at h
        exact h
    · refine ⟨3, .inr (.inr (.inl rfl)), fun A c w hr hc hcm => put_nil A n c 3 (.inr (.inr (.inl rfl))) w ((read_other A n c z (cls (z 4)) m w rfl hq (hb.1 A c w hr hc hcm)).mono fun e w' h => ⟨_, h⟩), fun A c w hr hc hcm => ?_⟩
      have h := docPut_yes A n c z (cls (z 4)) m w (hb.2 A c w hr hc hcm) rfl
      rw [if_neg hq] at h
      exact h
end Go.Proofs.YtljkcpjkbmbphaaGreat

/- The walk of StoreNil: for every input the law returns true, and nothing that was there is written. No condition. -/
namespace Go.Proofs.YtljkcpjkbmbphaaGreat
open Go.RowKit
set_option linter.unusedVariables false
set_option linter.unusedSimpArgs false

theorem refused_blk {w : World} {s b : Nat} {r : Bool} (h : Blk 76 w s (stC b r)) : Calls Tryz.prog 22 #[.pointer (some ⟨s, 0, none⟩)] w fun e w' => e = .returned (.bool r) ∧ w' = w := by
  have c1 : w.cell? ⟨s, 1, none⟩ = some (.bool r) := (h.cell 1).trans rfl
  clear h
  go_enter Tryz.func22, Tryz.ntmps22
  go_wp2
  go_ret
  exact ⟨rfl, rfl⟩
theorem pk_idG (i sq : Nat) (li : Int) (hi : IdOk i) (hs : sq ≤ 4294967295) (hl : 0 ≤ li ∧ li ≤ 65535) (w : World) : (hdZ 27 (pkZ i sq li)).id = i := by
  have hbd := pk_bd i sq li hs hl w
  have h8 : ∀ j, j < 8 → pkZ i sq li (12 + j) = dg i j := fun j hj => pd_field (pkP i sq li) 2 L0 2 j (by decide) hj (by decide)
  have hb := idZ_both _ hbd
  have h9 : ∀ j, j < 8 → dg (idZ (pkZ i sq li)) j = dg i j := fun j hj => (hb.2 j hj).trans (h8 j hj)
  show idZ (pkZ i sq li) = i
  refine idC_inj hb.1 hi ?_
  unfold iC
  rw [h9 0 (by decide), h9 1 (by decide), h9 2 (by decide), h9 3 (by decide), h9 4 (by decide), h9 5 (by decide), h9 6 (by decide), h9 7 (by decide)]
/-- the first k of them -/
def Hk (k : Nat) : Nat → Option Hd := fun j => if j < k then some (hdZ 27 (pkZ j 1 100)) else none
theorem hk_0 : Hk 0 = noH := by funext j; unfold Hk noH; rw [if_neg (Nat.not_lt_zero j)]
theorem hk_put (k : Nat) (hk : k ≤ 512) (w : World) : putH (Hk k) (hdZ 27 (pkZ k 1 100)) = Hk (k + 1) := by
  have hid := pk_idG k 1 100 (by unfold IdOk; omega) (by decide) (by decide) w
  funext j
  unfold putH Hk
  rw [hid]
  by_cases h : j = k
  · subst h; rw [if_pos rfl, if_pos (by omega)]
  · rw [if_neg h]
    by_cases h2 : j < k
    · rw [if_pos h2, if_pos (by omega)]
    · rw [if_neg h2, if_neg (by omega)]
theorem build_fr (o : Oper) (e : Operand → Value) (x : Operand) (ho : o.op = .build 35 #[(1, x)]) (v : Int) (h0 : e x = .int .u8 v) (W : World) : (execOp e o).run Tryz.prog W = .ok (.value (.agg #[.int .u8 0, .int .u8 0, .int .u8 0, .int .u8 0, .int .u8 0, .int .u8 0, .int .u8 0, .int .u8 v])) W := by
  unfold execOp
  simp only [ho]
  simp only [List.map_toArray, List.map_cons, List.map_nil, h0]
  kernel_rfl
theorem iC_lo (r : Nat) (h : r < 256) : iC r = #[.int .u8 0, .int .u8 0, .int .u8 0, .int .u8 0, .int .u8 0, .int .u8 0, .int .u8 0, .int .u8 (r : Int)] := by
  unfold iC
  have h0 : ∀ i, i < 7 → dg r i = 0 := fun i hi => by
    rcases (by omega : i = 0 ∨ i = 1 ∨ i = 2 ∨ i = 3 ∨ i = 4 ∨ i = 5 ∨ i = 6) with rfl | rfl | rfl | rfl | rfl | rfl | rfl <;> simp only [dg, pw] <;> omega
  have h7 : dg r 7 = (r : Int) := by simp only [dg, pw]; omega
  rw [h0 0 (by omega), h0 1 (by omega), h0 2 (by omega), h0 3 (by omega), h0 4 (by omega), h0 5 (by omega), h0 6 (by omega), h7]
theorem iC_hi (q r : Nat) (h : r < 256) (hq : q < 256) : putMany (iC r) 6 [.int .u8 (q : Int)] = iC (256 * q + r) := by
  have h0 : ∀ i, i < 6 → dg (256 * q + r) i = dg r i := fun i hi => by
    rcases (by omega : i = 0 ∨ i = 1 ∨ i = 2 ∨ i = 3 ∨ i = 4 ∨ i = 5) with rfl | rfl | rfl | rfl | rfl | rfl <;> simp only [dg, pw] <;> omega
  have h6 : dg (256 * q + r) 6 = (q : Int) := by simp only [dg, pw]; omega
  have h7 : dg (256 * q + r) 7 = dg r 7 := by simp only [dg, pw]; omega
  have e : putMany (iC r) 6 [.int .u8 (q : Int)] = #[.int .u8 (dg r 0), .int .u8 (dg r 1), .int .u8 (dg r 2), .int .u8 (dg r 3), .int .u8 (dg r 4), .int .u8 (dg r 5), .int .u8 (q : Int), .int .u8 (dg r 7)] := by kernel_rfl
  rw [e]
  conv => rhs; unfold iC
  rw [h0 0 (by omega), h0 1 (by omega), h0 2 (by omega), h0 3 (by omega), h0 4 (by omega), h0 5 (by omega), h6, h7]
theorem build_m1 (o : Oper) (e : Operand → Value) (ho : o.op = .build 31 #[(0, .const (.int .u8 1))]) (hc : ∀ v, e (.const v) = v) (W : World) : (execOp e o).run Tryz.prog W = .ok (.value (.agg #[.int .u8 1, .int .u8 0, .int .u8 0, .int .u8 0, .int .u8 0, .int .u8 0])) W := by
  unfold execOp
  simp only [ho]
  simp only [List.map_toArray, List.map_cons, List.map_nil, hc]
  kernel_rfl
theorem build_m2 (o : Oper) (e : Operand → Value) (x : Operand) (ho : o.op = .build 33 #[(0, x)]) (h0 : e x = .agg #[.int .u8 1, .int .u8 0, .int .u8 0, .int .u8 0, .int .u8 0, .int .u8 0]) (W : World) : (execOp e o).run Tryz.prog W = .ok (.value (.agg #[.int .u8 1, .int .u8 0, .int .u8 0, .int .u8 0, .int .u8 0, .int .u8 0, .int .u8 0])) W := by
  unfold execOp
  simp only [ho]
  simp only [List.map_toArray, List.map_cons, List.map_nil, h0]
  kernel_rfl
theorem build_m3 (o : Oper) (e : Operand → Value) (x : Operand) (ho : o.op = .build 35 #[(0, x)]) (h0 : e x = .agg #[.int .u8 1, .int .u8 0, .int .u8 0, .int .u8 0, .int .u8 0, .int .u8 0, .int .u8 0]) (W : World) : (execOp e o).run Tryz.prog W = .ok (.value (.agg (iC 72057594037927936))) W := by
  unfold execOp
  simp only [ho]
  simp only [List.map_toArray, List.map_cons, List.map_nil, h0]
  kernel_rfl
theorem cu8_nat (o : Oper) (e : Operand → Value) (x : Operand) (ho : o.op = .convert 3 5 x) (k r : Nat) (hk : k ≤ 65535) (hr : k % 256 = r) (h0 : e x = .int .i64 (k : Int)) (W : World) : (execOp e o).run Tryz.prog W = .ok (.value (.int .u8 (r : Int))) W := by
  subst hr
  exact (cu8_run o e x ho (k : Int) (by omega) h0 W)
theorem shr_nat (o : Oper) (e : Operand → Value) (x : Operand) (ho : o.op = .binOp .shr 3 x (.const (.int .u64 8)) 71) (k q : Nat) (hk : k ≤ 65535) (hq : k / 256 = q) (h0 : e x = .int .i64 (k : Int)) (hc : e (.const (.int .u64 8)) = .int .u64 8) (W : World) : (execOp e o).run Tryz.prog W = .ok (.value (.int .i64 (q : Int))) W := by
  subst hq
  exact (shr_run o e x ho (k : Int) (by omega) h0 hc W)
theorem rel_100 : relH (hdZ 27 (pkZ 0 2 100)) (hdZ 27 (pkZ 0 1 100)) = 1 := by kernel_rfl
theorem en_at {E : En} {n : Nat} (h : ∀ i, i < 8 → dg n i = E.s i) : enC E = enC ⟨dg n, E.sq, E.li, E.su⟩ := by
  unfold enC
  dsimp only
  rw [h 0 (by decide), h 1 (by decide), h 2 (by decide), h 3 (by decide), h 4 (by decide), h 5 (by decide), h 6 (by decide), h 7 (by decide)]
theorem st_far {w w' : World} {B s b k g : Nat} {H : Nat → Option Hd} {r : Bool} {C0 C : Array Value} (h : StAt w B s b H k r) (hg : Blk 35 w g C0) (hs : Stored w w' g C 35) : StAt w' B s b H k r := by
  obtain ⟨h1, h2, h3, M, h4, h5, h6, h7⟩ := h
  have n1 : s ≠ g := fun e => by
    have e1 : w.heap[s]? = _ := h3
    have e2 : w.heap[g]? = _ := hg
    rw [e, e2] at e1
    injection e1 with e1
    injection e1 with _ e1 _
    exact absurd e1 (by decide)
  have n2 : b ≠ g := fun e => by
    obtain ⟨es, c, e1, _⟩ := h4
    have e2 : w.heap[g]? = _ := hg
    rw [e, e2] at e1
    cases e1
  refine ⟨h1, h2, h3.far hs n1, M, h4.far hs n2, h5, fun i g' x e1 e2 => ?_, h7⟩
  obtain ⟨⟨a1, ro, oa, c, a2, a3, a4⟩, c9⟩ := h6 i g' x e1 e2
  have n3 : g' ≠ g := fun e => by
    have e3 : w.heap[g']? = _ := a2
    have e4 : w.heap[g]? = _ := hg
    rw [e, e4] at e3
    injection e3 with e3
    injection e3 with _ e3 _
    exact absurd e3 (by decide)
  have n4 : ro ≠ g := fun e => by
    obtain ⟨cur, e3⟩ := a3.2
    have e4 : w.heap[g]? = _ := hg
    rw [e, e4] at e3
    injection e3 with e3
    injection e3 with _ e3 _
    exact absurd e3 (by decide)
  exact ⟨⟨a1, ro, oa, _, a2.far hs n3, a3.block (hs.2.2 ro n4), a4⟩, c9⟩
set_option maxHeartbeats 40000000 in
set_option maxRecDepth 100000 in
theorem walkStoreNilZ (A : Option Addr) (len cap : Nat) (z : Nat → Int) (n sq su : Nat) (li t : Int) (w : World) (hr : Rd w A len z) (hA : A = none → len = 0 ∧ cap = 0) (hlc : len ≤ cap) (hcm : cap ≤ maxLen) (hn : len ≤ 140737488351232) :
    Calls Tryz.prog 4 #[.slice A len cap, .agg (enC ⟨dg n, sq, li, su⟩), .int .i64 t] w fun e w' => e = .returned (.bool true) ∧ Below w.heap.size w w' := by
  obtain ⟨E, _, hp, hd⟩ := both_nil len z
  have HR := Lib.hid hr
  have HA := Lib.hid hA
  have HPN := Lib.hid hp
  have HDN := Lib.hid hd
  obtain ⟨T, hT⟩ : ∃ x : Int, (if t < 0 ∨ 65535 < t then 1 else 6) = x := ⟨_, rfl⟩
  have HTT := Lib.hid hT
  obtain ⟨x, hx⟩ : ∃ x : Int, nilE E = x := ⟨_, rfl⟩
  rw [hx] at HPN HDN
  clear hr hA hp hd hT hx
  go_enter Tryz.func4, Tryz.ntmps4
  have HB := Lib.hid (Below.refl w.heap.size w)
  obtain ⟨N1, hN1⟩ : ∃ N, w.heap.size = N := ⟨_, rfl⟩
  have HN1 := Lib.hid hN1
  clear hN1
  go_wp2_with (refine wpList_box (op := ⟨some 4, _, _, _, _, _⟩) rfl 58 (.tmp 1) rfl (enC ⟨dg n, sq, li, su⟩) rfl N1 HN1.out ?_; intro w1 k1 b1 s1; refine Hid.out ?_)
  refine Lib.hid ?_
  have K4 := Lib.hid k1
  clear k1
  have le_HB_N1 : w.heap.size ≤ N1 := by rw [← HN1.out]; exact HB.out.size
  have HBn := Lib.hid (HB.out.trans (b1.mono HB.out.size))
  clear HB
  have HB := HBn
  clear HBn
  clear b1 HN1
  go_wp2_with fail
  refine (twin_any A len cap z w1 (HR.out.below HB.out rfl) HA.out hn).mono ?_
  rintro e w2 ⟨g1, c1, rfl, hg1, hO, b1⟩
  have K4n := Lib.hid (K4.out.below b1 K4.out.lt)
  clear K4
  have K4 := K4n
  clear K4n
  have HBn := Lib.hid (HB.out.trans (b1.mono HB.out.size))
  clear HB
  have HB := HBn
  clear HBn
  have hOc := hO.caps
  have HOr := Lib.hid hO.rd
  clear hO hg1 b1
  go_wp2_with fail
  refine (HPN.out (some ⟨g1, 0, none⟩) c1 w2 HOr.out hOc.1 hOc.2).mono ?_
  rintro e w3 ⟨rfl, b1⟩
  have K4n := Lib.hid (K4.out.below b1 K4.out.lt)
  clear K4
  have K4 := K4n
  clear K4n
  have HBn := Lib.hid (HB.out.trans (b1.mono HB.out.size))
  clear HB
  have HB := HBn
  clear HBn
  clear b1 HOr hOc
  go_wp2_with fail
  refine (HDN.out A cap w3 (HR.out.below HB.out rfl) hlc hcm).mono ?_
  rintro e w4 ⟨rfl, b1⟩
  have K4n := Lib.hid (K4.out.below b1 K4.out.lt)
  clear K4
  have K4 := K4n
  clear K4n
  have HBn := Lib.hid (HB.out.trans (b1.mono HB.out.size))
  clear HB
  have HB := HBn
  clear HBn
  clear b1
  go_wp2_with (refine wpList_ld (op := ⟨some 42, _, _, _, _, _⟩) (by rfl) 35 (.tmp 41) rfl N1 0 rfl (iC n) _ (en_idN K4.out) Tryz.underlying35 rfl info_iC ?_; refine Hid.out ?_)
  refine Lib.hid ?_
  go_wp2_with fail
  refine (get_nil n w4).mono ?_
  rintro e w5 ⟨rfl, b1⟩
  have K4n := Lib.hid (K4.out.below b1 K4.out.lt)
  clear K4
  have K4 := K4n
  clear K4n
  have HBn := Lib.hid (HB.out.trans (b1.mono HB.out.size))
  clear HB
  have HB := HBn
  clear HBn
  clear b1
  obtain ⟨N6, hN6⟩ : ∃ N, w5.heap.size = N := ⟨_, rfl⟩
  have HN6 := Lib.hid hN6
  clear hN6
  go_wp2_with (refine wpList_new (op := ⟨some 13, _, _, _, _, _⟩) rfl 58 rfl (enC en0) zero_en N6 HN6.out ?_; intro w6 k1 b1 s1; refine Hid.out ?_)
  refine Lib.hid ?_
  have K13 := Lib.hid k1
  clear k1
  have lt_N1_N6 : N1 < N6 := by rw [← HN6.out]; exact K4.out.lt
  have le_HB_N6 : w.heap.size ≤ N6 := by rw [← HN6.out]; exact HB.out.size
  have K4n := Lib.hid (K4.out.below b1 K4.out.lt)
  clear K4
  have K4 := K4n
  clear K4n
  have HBn := Lib.hid (HB.out.trans (b1.mono HB.out.size))
  clear HB
  have HB := HBn
  clear HBn
  clear b1 HN6
  go_wp2_with (refine wpList_st rfl 58 (.tmp 13) (.tmp 45) rfl N6 0 rfl (.agg (enC en0)) (enC en0) rfl rfl info_enP (enC_all _) K13.out (Nat.le_of_ble_eq_true rfl) (C' := enC en0) (en_over _ _) ?_; intro w20 q1; refine Hid.out ?_)
  refine Lib.hid ?_
  have K4n := Lib.hid (K4.out.far q1 (by omega))
  clear K4
  have K4 := K4n
  clear K4n
  have HBn := Lib.hid (HB.out.trans (q1.2.1 _ (by omega)))
  clear HB
  have HB := HBn
  clear HBn
  have K13n : Hid (Blk 58 w20 N6 (enC en0)) := Lib.hid q1.1
  clear K13
  have K13 := K13n
  clear K13n q1
  go_wp2_with fail
  refine (age_nil t w20).mono ?_
  rintro e x1 ⟨rfl, rfl⟩
  rw [HTT.out]
  go_wp2_with fail
  refine (docAge_nil t x1).mono ?_
  rintro e x2 ⟨rfl, rfl⟩
  rw [HTT.out]
  go_wp2_with (refine wpList_ld (op := ⟨some 60, _, _, _, _, _⟩) (by rfl) 58 (.tmp 4) rfl N1 0 rfl (enC ⟨dg n, sq, li, su⟩) _ K4.out.all Tryz.underlying58 rfl info_enP ?_; refine Hid.out ?_)
  refine Lib.hid ?_
  go_wp2_with fail
  refine (comp_nil n sq su li x2).mono ?_
  rintro e w21 ⟨rfl, b1⟩
  have K4n := Lib.hid (K4.out.below b1 K4.out.lt)
  clear K4
  have K4 := K4n
  clear K4n
  have K13n := Lib.hid (K13.out.below b1 K13.out.lt)
  clear K13
  have K13 := K13n
  clear K13n
  have HBn := Lib.hid (HB.out.trans (b1.mono HB.out.size))
  clear HB
  have HB := HBn
  clear HBn
  clear b1
  go_wp2_with fail
  refine (awake_any w21).mono ?_
  rintro e w22 ⟨rfl, b1⟩
  have K4n := Lib.hid (K4.out.below b1 K4.out.lt)
  clear K4
  have K4 := K4n
  clear K4n
  have K13n := Lib.hid (K13.out.below b1 K13.out.lt)
  clear K13
  have K13 := K13n
  clear K13n
  have HBn := Lib.hid (HB.out.trans (b1.mono HB.out.size))
  clear HB
  have HB := HBn
  clear HBn
  clear b1
  have cz0 : w22.cell? ⟨N6, 0, none⟩ = some (.int .u8 0) := (K13.out.cell 0).trans rfl
  have cz1 : w22.cell? ⟨N6, 1, none⟩ = some (.int .u8 0) := (K13.out.cell 1).trans rfl
  have cz2 : w22.cell? ⟨N6, 2, none⟩ = some (.int .u8 0) := (K13.out.cell 2).trans rfl
  have cz3 : w22.cell? ⟨N6, 3, none⟩ = some (.int .u8 0) := (K13.out.cell 3).trans rfl
  have cz4 : w22.cell? ⟨N6, 4, none⟩ = some (.int .u8 0) := (K13.out.cell 4).trans rfl
  have cz5 : w22.cell? ⟨N6, 5, none⟩ = some (.int .u8 0) := (K13.out.cell 5).trans rfl
  have cz6 : w22.cell? ⟨N6, 6, none⟩ = some (.int .u8 0) := (K13.out.cell 6).trans rfl
  have cz7 : w22.cell? ⟨N6, 7, none⟩ = some (.int .u8 0) := (K13.out.cell 7).trans rfl
  have cz8 : w22.cell? ⟨N6, 8, none⟩ = some (.int .u32 0) := (K13.out.cell 8).trans rfl
  have cz9 : w22.cell? ⟨N6, 9, none⟩ = some (.int .i64 0) := (K13.out.cell 9).trans rfl
  have cz10 : w22.cell? ⟨N6, 10, none⟩ = some (.int .u16 0) := (K13.out.cell 10).trans rfl
  have hq83 : ∀ W : World, (binOp BinOp.neq 58 (.agg #[.int .u8 0, .int .u8 0, .int .u8 0, .int .u8 0, .int .u8 0, .int .u8 0, .int .u8 0, .int .u8 0, .int .u32 0, .int .i64 0, .int .u16 0]) (.agg #[.int .u8 0, .int .u8 0, .int .u8 0, .int .u8 0, .int .u8 0, .int .u8 0, .int .u8 0, .int .u8 0, .int .u32 0, .int .i64 0, .int .u16 0])).run Tryz.prog W = .ok (.bool false) W := fun W => by kernel_rfl
  have ci0 : w22.cell? ⟨N1, 0, none⟩ = some (.int .u8 (dg n 0)) := (K4.out.cell 0).trans rfl
  have ci1 : w22.cell? ⟨N1, 1, none⟩ = some (.int .u8 (dg n 1)) := (K4.out.cell 1).trans rfl
  have ci2 : w22.cell? ⟨N1, 2, none⟩ = some (.int .u8 (dg n 2)) := (K4.out.cell 2).trans rfl
  have ci3 : w22.cell? ⟨N1, 3, none⟩ = some (.int .u8 (dg n 3)) := (K4.out.cell 3).trans rfl
  have ci4 : w22.cell? ⟨N1, 4, none⟩ = some (.int .u8 (dg n 4)) := (K4.out.cell 4).trans rfl
  have ci5 : w22.cell? ⟨N1, 5, none⟩ = some (.int .u8 (dg n 5)) := (K4.out.cell 5).trans rfl
  have ci6 : w22.cell? ⟨N1, 6, none⟩ = some (.int .u8 (dg n 6)) := (K4.out.cell 6).trans rfl
  have ci7 : w22.cell? ⟨N1, 7, none⟩ = some (.int .u8 (dg n 7)) := (K4.out.cell 7).trans rfl
  have fx : (x != x) = false := by simp
  have fT : (T != T) = false := by simp
  have f0 : ((0 : Int) != 0) = false := rfl
  have f6 : ((6 : Int) != 6) = false := rfl
  go_wp2_with fail
  refine (drop_nil n w22).mono ?_
  rintro e w23 ⟨rfl, b1⟩
  have K4n := Lib.hid (K4.out.below b1 K4.out.lt)
  clear K4
  have K4 := K4n
  clear K4n
  have K13n := Lib.hid (K13.out.below b1 K13.out.lt)
  clear K13
  have K13 := K13n
  clear K13n
  have HBn := Lib.hid (HB.out.trans (b1.mono HB.out.size))
  clear HB
  have HB := HBn
  clear HBn
  clear b1 cz0 cz1 cz2 cz3 cz4 cz5 cz6 cz7 cz8 cz9 cz10 hq83 ci0 ci1 ci2 ci3 ci4 ci5 ci6 ci7
  go_wp2_with fail
  refine (last_any w23).mono ?_
  rintro e w24 ⟨rfl, b1⟩
  have K4n := Lib.hid (K4.out.below b1 K4.out.lt)
  clear K4
  have K4 := K4n
  clear K4n
  have K13n := Lib.hid (K13.out.below b1 K13.out.lt)
  clear K13
  have K13 := K13n
  clear K13n
  have HBn := Lib.hid (HB.out.trans (b1.mono HB.out.size))
  clear HB
  have HB := HBn
  clear HBn
  clear b1
  go_wp2_with fail
  refine (list_nil 0 18446744073709551615 w24).mono ?_
  rintro e w25 ⟨rfl, b1⟩
  have K4n := Lib.hid (K4.out.below b1 K4.out.lt)
  clear K4
  have K4 := K4n
  clear K4n
  have K13n := Lib.hid (K13.out.below b1 K13.out.lt)
  clear K13
  have K13 := K13n
  clear K13n
  have HBn := Lib.hid (HB.out.trans (b1.mono HB.out.size))
  clear HB
  have HB := HBn
  clear HBn
  clear b1
  go_wp2_with fail
  refine (len_nil w25).mono ?_
  rintro e x3 ⟨rfl, rfl⟩
  go_wp2_with fail
  refine (refused_nil x3).mono ?_
  rintro e x4 ⟨rfl, rfl⟩
  have HBs := Lib.hid HB.out
  go_wp2_with fail
  refine (new_any x4).mono ?_
  rintro e w26 ⟨s, b, rfl, hst, b1⟩
  have K4n := Lib.hid (K4.out.below b1 K4.out.lt)
  clear K4
  have K4 := K4n
  clear K4n
  have K13n := Lib.hid (K13.out.below b1 K13.out.lt)
  clear K13
  have K13 := K13n
  clear K13n
  have HBn := Lib.hid (HB.out.trans (b1.mono HB.out.size))
  clear HB
  have HB := HBn
  clear HBn
  have HST : Hid (StAt w26 x4.heap.size s b (Hk 0) 0 false) := Lib.hid (by rw [hk_0]; exact hst)
  have le_B : w.heap.size ≤ x4.heap.size := HBs.out.size
  clear hst b1 HBs K4 K13
  go_wp2_with fail
  go_loopw [132] (fun i wr => ∃ k : Nat, k ≤ 512 ∧ i = .int .i64 k ∧ Hid (StAt wr x4.heap.size s b (Hk k) k false) ∧ Hid (Below w.heap.size w wr)) (fun i _ => 512 - (intOf i).toNat)
  case atStart => exact ⟨0, by omega, rfl, HST, HB⟩
  case round =>
    clear HST HB
    obtain ⟨k, hk, rfl, HST, HB⟩ := hrel
    by_cases hlt : k < 512
    · have hki : (k : Int) < 512 := by omega
      obtain ⟨q, hq⟩ : ∃ q, k / 256 = q := ⟨_, rfl⟩
      obtain ⟨r, hr⟩ : ∃ r, k % 256 = r := ⟨_, rfl⟩
      have HQ := Lib.hid (And.intro hq hr)
      have hqr : 256 * q + r = k ∧ r < 256 ∧ q < 256 := by omega
      have HQR := Lib.hid hqr
      clear hq hr hqr
      go_wp2_with (refine wpList_v (op := ⟨some 136, _, _, _, _, _⟩) rfl (.int .u8 (r : Int)) (cu8_nat _ _ _ rfl k r (by omega) HQ.out.2 rfl _) ?_; refine Hid.out ?_)
      refine Lib.hid ?_
      go_wp2_with (refine wpList_v (op := ⟨some 137, _, _, _, _, _⟩) rfl (.agg (iC r)) (by rw [iC_lo r HQR.out.2.1]; exact build_fr _ _ _ rfl (r : Int) rfl _) ?_; refine Hid.out ?_)
      refine Lib.hid ?_
      obtain ⟨N41, hN41⟩ : ∃ N, wr.heap.size = N := ⟨_, rfl⟩
      have HN41 := Lib.hid hN41
      clear hN41
      go_wp2_with (refine wpList_new (op := ⟨some 23, _, _, _, _, _⟩) rfl 35 rfl (iC 0) zero_idN N41 HN41.out ?_; intro w41 k1 b1 s1; refine Hid.out ?_)
      refine Lib.hid ?_
      have LEK23 : Hid (s < N41 ∧ b < N41) := Lib.hid (by rw [← HN41.out]; exact ⟨HST.out.lt, HST.out.ltb⟩)
      have K23 := Lib.hid k1
      have hNK23 := Lib.hid (Nat.le_of_eq HN41.out)
      have hbx := Lib.hid b1
      clear k1
      have le_HB_N41 : w.heap.size ≤ N41 := by rw [← HN41.out]; exact HB.out.size
      have HBn := Lib.hid (HB.out.trans (b1.mono HB.out.size))
      clear HB
      have HB := HBn
      clear HBn
      clear b1 HN41
      go_wp2_with (refine wpList_st rfl 35 (.tmp 23) (.tmp 137) rfl N41 0 rfl (.agg (iC r)) (iC r) rfl rfl info_iC (iC_one' _) K23.out (Nat.le_of_ble_eq_true rfl) (C' := iC r) (id_overN _ _) ?_; intro w50 q1; refine Hid.out ?_)
      refine Lib.hid ?_
      have hby := Lib.hid (hbx.out.trans (q1.2.1 _ hNK23.out))
      have HBn := Lib.hid (HB.out.trans (q1.2.1 _ (by omega)))
      clear HB
      have HB := HBn
      clear HBn
      have K23n : Hid (Blk 35 w50 N41 (iC r)) := Lib.hid q1.1
      clear K23
      have K23 := K23n
      clear K23n q1
      have HSTn : Hid (StAt w50 x4.heap.size s b (Hk k) k false) := Lib.hid (HST.out.below hby.out)
      clear HST
      have HST := HSTn
      clear HSTn
      clear hby hbx hNK23
      go_wp2_with (refine wpList_v (op := ⟨some 139, _, _, _, _, _⟩) rfl (.int .i64 (q : Int)) (shr_nat _ _ _ rfl k q (by omega) HQ.out.1 rfl rfl _) ?_; refine Hid.out ?_)
      refine Lib.hid ?_
      go_wp2_with (refine wpList_v (op := ⟨some 140, _, _, _, _, _⟩) rfl (.int .u8 (q : Int)) (cu8_nat _ _ _ rfl q q (by have := HQR.out; omega) (by have := HQR.out; omega) rfl _) ?_; refine Hid.out ?_)
      refine Lib.hid ?_
      have HNK := Lib.hid LEK23.out
      go_wp2_with (refine wpList_st rfl 5 (.tmp 142) (.tmp 140) rfl N41 6 rfl (.int .u8 (q : Int)) (#[.int .u8 (q : Int)]) rfl rfl info_u81 (one_u8v _) K23.out (Nat.le_of_ble_eq_true rfl) (C' := iC k) (by rw [iC_hi q r HQR.out.2.1 HQR.out.2.2, HQR.out.1]) ?_; intro w51 q1; refine Hid.out ?_)
      refine Lib.hid ?_
      have HSTn : Hid (StAt w51 x4.heap.size s b (Hk k) k false) := Lib.hid (st_far HST.out K23.out q1)
      have HBn := Lib.hid (HB.out.trans (q1.2.1 _ (by omega)))
      clear HB
      have HB := HBn
      clear HBn
      have K23n : Hid (Blk 35 w51 N41 (iC k)) := Lib.hid q1.1
      clear K23
      have K23 := K23n
      clear K23n q1
      clear HST
      have HST := HSTn
      clear HSTn HNK LEK23
      go_wp2_with (refine wpList_ld (op := ⟨some 145, _, _, _, _, _⟩) (by rfl) 35 (.tmp 23) rfl N41 0 rfl (iC k) _ K23.out.all Tryz.underlying35 rfl info_iC ?_; refine Hid.out ?_)
      refine Lib.hid ?_
      go_wp2_with fail
      refine (packet_any k 1 100 (by decide) (by decide) w51).mono ?_
      rintro e w52 ⟨g5, c5, rfl, hg5, hO, b1⟩
      have K23n := Lib.hid (K23.out.below b1 K23.out.lt)
      clear K23
      have K23 := K23n
      clear K23n
      have HSTn := Lib.hid (HST.out.below b1)
      clear HST
      have HST := HSTn
      clear HSTn
      have HBn := Lib.hid (HB.out.trans (b1.mono HB.out.size))
      clear HB
      have HB := HBn
      clear HBn
      have HO := Lib.hid hO
      clear hO b1 hg5 K23
      go_wp2_with fail
      refine (put_good g5 27 c5 (pkZ k 1 100) 0 x4.heap.size s b k (Hk k) false w52 HST.out (by omega) (pk_cls _ _ _) (by decide) HO.out (pk_good k 1 100 (by decide) (by decide) w)).mono ?_
      rintro e q5 ⟨x5, E5, rfl, hf, hc⟩
      have hR : x5 = 1 ∧ E5 = 0 ∧ StAt q5 x4.heap.size s b (Hk (k + 1)) (k + 1) false := by
        have hid := pk_idG k 1 100 (by unfold IdOk; omega) (by decide) (by decide) w
        have hH : Hk k (hdZ 27 (pkZ k 1 100)).id = none := by rw [hid]; unfold Hk; rw [if_neg (Nat.lt_irrefl k)]
        have hP := hk_put k (by omega) w
        rcases hc with ⟨_, _, h1, h2, h3⟩ | ⟨_, h, _⟩ | ⟨h, e, _⟩ | ⟨h, e, _⟩
        · rw [hP] at h3; exact ⟨h1, h2, h3⟩
        · omega
        · rw [hH] at e; cases e
        · rw [hH] at e; cases e
      obtain ⟨rfl, rfl, hst⟩ := hR
      have HBn := Lib.hid (HB.out.trans ((hf.below HST.out.hs HST.out.hb HST.out.ltB).mono le_B))
      clear HB
      have HB := HBn
      clear HBn
      clear HST
      have HST := Lib.hid hst
      clear hst hf hc HO
      go_wp2_with fail
      go_roundw
      case rel => exact ⟨k + 1, by omega, by go_num, HST, HB⟩
      case measure => simp only [intOf]; omega
    · obtain rfl : k = 512 := by omega
      go_wp2_with (refine wpList_v (op := ⟨some 157, _, _, _, _, _⟩) rfl (.agg #[.int .u8 1, .int .u8 0, .int .u8 0, .int .u8 0, .int .u8 0, .int .u8 0]) (build_m1 _ _ rfl (fun _ => rfl) _) ?_; refine Hid.out ?_)
      refine Lib.hid ?_
      go_wp2_with (refine wpList_v (op := ⟨some 158, _, _, _, _, _⟩) rfl (.agg #[.int .u8 1, .int .u8 0, .int .u8 0, .int .u8 0, .int .u8 0, .int .u8 0, .int .u8 0]) (build_m2 _ _ _ rfl rfl _) ?_; refine Hid.out ?_)
      refine Lib.hid ?_
      go_wp2_with (refine wpList_v (op := ⟨some 159, _, _, _, _, _⟩) rfl (.agg (iC 72057594037927936)) (build_m3 _ _ _ rfl rfl _) ?_; refine Hid.out ?_)
      refine Lib.hid ?_
      obtain ⟨N71, hN71⟩ : ∃ N, wr.heap.size = N := ⟨_, rfl⟩
      have HN71 := Lib.hid hN71
      clear hN71
      go_wp2_with (refine wpList_new (op := ⟨some 26, _, _, _, _, _⟩) rfl 35 rfl (iC 0) zero_idN N71 HN71.out ?_; intro w71 k1 b1 s1; refine Hid.out ?_)
      refine Lib.hid ?_
      have LEK26 : Hid (s < N71 ∧ b < N71) := Lib.hid (by rw [← HN71.out]; exact ⟨HST.out.lt, HST.out.ltb⟩)
      have K26 := Lib.hid k1
      have hNK26 := Lib.hid (Nat.le_of_eq HN71.out)
      have hbx := Lib.hid b1
      clear k1
      have le_HB_N71 : w.heap.size ≤ N71 := by rw [← HN71.out]; exact HB.out.size
      have HBn := Lib.hid (HB.out.trans (b1.mono HB.out.size))
      clear HB
      have HB := HBn
      clear HBn
      clear b1 HN71
      go_wp2_with (refine wpList_st rfl 35 (.tmp 26) (.tmp 159) rfl N71 0 rfl (.agg (iC 72057594037927936)) (iC 72057594037927936) rfl rfl info_iC (iC_one' _) K26.out (Nat.le_of_ble_eq_true rfl) (C' := iC 72057594037927936) (id_overN _ _) ?_; intro w80 q1; refine Hid.out ?_)
      refine Lib.hid ?_
      have hby := Lib.hid (hbx.out.trans (q1.2.1 _ hNK26.out))
      have HBn := Lib.hid (HB.out.trans (q1.2.1 _ (by omega)))
      clear HB
      have HB := HBn
      clear HBn
      have K26n : Hid (Blk 35 w80 N71 (iC 72057594037927936)) := Lib.hid q1.1
      clear K26
      have K26 := K26n
      clear K26n q1
      have HSTn : Hid (StAt w80 x4.heap.size s b (Hk 512) 512 false) := Lib.hid (HST.out.below hby.out)
      clear HST
      have HST := HSTn
      clear HSTn
      clear hby hbx hNK26
      go_wp2_with (refine wpList_ld (op := ⟨some 162, _, _, _, _, _⟩) (by rfl) 35 (.tmp 26) rfl N71 0 rfl (iC 72057594037927936) _ K26.out.all Tryz.underlying35 rfl info_iC ?_; refine Hid.out ?_)
      refine Lib.hid ?_
      go_wp2_with fail
      refine (packet_any 72057594037927936 1 100 (by decide) (by decide) w80).mono ?_
      rintro e w81 ⟨g6, c5, rfl, hg6, hO, b1⟩
      have K26n := Lib.hid (K26.out.below b1 K26.out.lt)
      clear K26
      have K26 := K26n
      clear K26n
      have HSTn := Lib.hid (HST.out.below b1)
      clear HST
      have HST := HSTn
      clear HSTn
      have HBn := Lib.hid (HB.out.trans (b1.mono HB.out.size))
      clear HB
      have HB := HBn
      clear HBn
      have HO := Lib.hid hO
      clear hO b1 hg6 K26
      go_wp2_with fail
      refine (put_good g6 27 c5 (pkZ 72057594037927936 1 100) 0 x4.heap.size s b 512 (Hk 512) false w81 HST.out (by omega) (pk_cls _ _ _) (by decide) HO.out (pk_good 72057594037927936 1 100 (by decide) (by decide) w)).mono ?_
      rintro e q6 ⟨x5, E5, rfl, hf, hc⟩
      have hR : x5 = 0 ∧ E5 = 10 ∧ StAt q6 x4.heap.size s b (Hk 512) 512 true := by
        have hid := pk_idG 72057594037927936 1 100 (by unfold IdOk; decide) (by decide) (by decide) w
        have hH : Hk 512 (hdZ 27 (pkZ 72057594037927936 1 100)).id = none := by rw [hid]; unfold Hk; rw [if_neg (by decide)]
        rcases hc with ⟨_, h, _⟩ | ⟨_, _, h1, h2, h3⟩ | ⟨h, e, _⟩ | ⟨h, e, _⟩
        · omega
        · exact ⟨h1, h2, h3⟩
        · rw [hH] at e; cases e
        · rw [hH] at e; cases e
      obtain ⟨rfl, rfl, hst⟩ := hR
      have HBn := Lib.hid (HB.out.trans ((hf.below HST.out.hs HST.out.hb HST.out.ltB).mono le_B))
      clear HB
      have HB := HBn
      clear HBn
      clear HST
      have HST := Lib.hid hst
      clear hst hf hc HO
      go_wp2_with fail
      refine (refused_blk HST.out.blk).mono ?_
      rintro e x5 ⟨rfl, rfl⟩
      go_wp2_with fail
      refine (stLen_any HST.out).mono ?_
      rintro e x6 ⟨rfl, rfl⟩
      go_wp2_with (refine wpList_v (op := ⟨some 185, _, _, _, _, _⟩) rfl (.agg (iC 0)) (build_id0 _ _ rfl _) ?_; refine Hid.out ?_)
      refine Lib.hid ?_
      go_wp2_with fail
      refine (packet_any 0 2 100 (by decide) (by decide) x6).mono ?_
      rintro e w82 ⟨g7, c5, rfl, hg7, hO, b1⟩
      have HSTn := Lib.hid (HST.out.below b1)
      clear HST
      have HST := HSTn
      clear HSTn
      have HBn := Lib.hid (HB.out.trans (b1.mono HB.out.size))
      clear HB
      have HB := HBn
      clear HBn
      have HO := Lib.hid hO
      clear hO b1 hg7
      go_wp2_with fail
      refine (put_good g7 27 c5 (pkZ 0 2 100) 0 x4.heap.size s b 512 (Hk 512) true w82 HST.out (by omega) (pk_cls _ _ _) (by decide) HO.out (pk_good 0 2 100 (by decide) (by decide) w)).mono ?_
      rintro e q7 ⟨x5, E5, rfl, hf, hc⟩
      have hR : x5 = 1 ∧ E5 = 0 ∧ StAt q7 x4.heap.size s b (putH (Hk 512) (hdZ 27 (pkZ 0 2 100))) 512 true := by
        have hid := pk_idG 0 2 100 (by unfold IdOk; decide) (by decide) (by decide) w
        have hH : Hk 512 (hdZ 27 (pkZ 0 2 100)).id = some (hdZ 27 (pkZ 0 1 100)) := by rw [hid]; unfold Hk; rw [if_pos (by decide)]
        rcases hc with ⟨e, _⟩ | ⟨e, _⟩ | ⟨h, e, h1, _⟩ | ⟨h, e, h1, h2, h3, h4⟩
        · rw [hH] at e; cases e
        · rw [hH] at e; cases e
        · rw [hH] at e; obtain rfl := Option.some.inj e; rw [rel_100] at h1; omega
        · exact ⟨h2, h3, h4⟩
      obtain ⟨rfl, rfl, hst⟩ := hR
      have HBn := Lib.hid (HB.out.trans ((hf.below HST.out.hs HST.out.hb HST.out.ltB).mono le_B))
      clear HB
      have HB := HBn
      clear HBn
      clear HST
      have HST := Lib.hid hst
      clear hst hf hc HO
      go_wp2_with fail
      refine (refused_blk HST.out.blk).mono ?_
      rintro e x7 ⟨rfl, rfl⟩
      go_wp2_with fail
      refine (drop_any x4.heap.size s b 512 0 (putH (Hk 512) (hdZ 27 (pkZ 0 2 100))) true x7 HST.out (by unfold IdOk; decide) (by unfold putH; rw [pk_idG 0 2 100 (by unfold IdOk; decide) (by decide) (by decide) w, if_pos rfl]; exact fun e => by cases e)).mono ?_
      rintro e w99 ⟨rfl, b1, M9, hk9, hm9⟩
      have HK9 := Lib.hid hk9
      have HB9 := Lib.hid (HB.out.trans (b1.mono le_B))
      clear b1 hk9 hm9
      go_wp2_with fail
      refine (refused_blk HK9.out).mono ?_
      rintro e x8 ⟨rfl, rfl⟩
      go_wp2_with fail
      go_ret
      exact ⟨rfl, HB9.out⟩
theorem walkStoreNil (A : Option Addr) (len cap : Nat) (zs : List Int) (E : En) (t : Int) (w : World) (h : IsRow .u8 w A len cap zs) (hs : cap * 1 ≤ 140737488351232) (hE : EnOk E) (ht : (Lit.int .i64 t).wf = true) :
    Calls Tryz.prog 4 #[.slice A len cap, .agg (enC E), .int .i64 t] w fun e w' => e = .returned (.bool true) ∧ Below w.heap.size w w' := by
  obtain ⟨hR, hA⟩ := isRow_rd h
  obtain ⟨hlc, hcm⟩ := isRow_len h
  obtain ⟨n, _, hn⟩ := id_of E.s hE.1
  rw [en_at hn]
  exact walkStoreNilZ A len cap _ n E.sq E.su E.li t w hR hA hlc hcm (by omega)
end Go.Proofs.YtljkcpjkbmbphaaGreat

/- What an argument of type Entry is. Each theorem states its conditions. -/
namespace Go.Proofs.YtljkcpjkbmbphaaGreat
open Go.RowKit Go.ChangeShapes Go.WideShapes
set_option linter.unusedVariables false

section
variable {H : Type} {enc : TypeId × Value → H} {w : World} {base : Nat} {spare : Nat → Bool} {held : Bool} {m : Nat} {cs : List Value} {x : DataW H × List MemPlace}
theorem entry_cells (h : DataW.trod enc Tryz.prog w base spare held m 58 cs = some x) : ∃ E : En, cs = (enC E).toList ∧ EnOk E := by
  have hc11 : Tryz.prog.cellsOf 58 = 11 := by kernel_rfl
  have hc8 : Tryz.prog.cellsOf 35 = 8 := by kernel_rfl
  have hc7 : Tryz.prog.cellsOf 33 = 7 := by kernel_rfl
  have hc6 : Tryz.prog.cellsOf 31 = 6 := by kernel_rfl
  have hc1 : Tryz.prog.cellsOf 5 = 1 := by kernel_rfl
  have hcu : Tryz.prog.cellsOf 36 = 1 := by kernel_rfl
  have hci : Tryz.prog.cellsOf 3 = 1 := by kernel_rfl
  have hcs : Tryz.prog.cellsOf 56 = 1 := by kernel_rfl
  obtain ⟨xs, m1, _, _, hl, hn, hel⟩ := DataW.trod_struct Tryz.underlying58 h
  rw [hc11] at hl
  have hn : xs.length = 4 := hn
  have e0 : DataW.trod enc Tryz.prog w base spare held m1 35 ((cs.drop 0).take (Tryz.prog.cellsOf 35)) = xs[0]? := hel 0 _ rfl
  have e1 : DataW.trod enc Tryz.prog w base spare held m1 36 ((cs.drop 8).take (Tryz.prog.cellsOf 36)) = xs[1]? := hel 1 _ rfl
  have e2 : DataW.trod enc Tryz.prog w base spare held m1 3 ((cs.drop 9).take (Tryz.prog.cellsOf 3)) = xs[2]? := hel 2 _ rfl
  have e3 : DataW.trod enc Tryz.prog w base spare held m1 56 ((cs.drop 10).take (Tryz.prog.cellsOf 56)) = xs[3]? := hel 3 _ rfl
  rw [hc8, List.getElem?_eq_getElem (by omega)] at e0
  rw [hcu, List.getElem?_eq_getElem (by omega)] at e1
  rw [hci, List.getElem?_eq_getElem (by omega)] at e2
  rw [hcs, List.getElem?_eq_getElem (by omega)] at e3
  obtain ⟨ws, m0, _, _, _, hnw, hew⟩ := DataW.trod_struct Tryz.underlying35 e0
  have hnw : ws.length = 2 := hnw
  have g0 : DataW.trod enc Tryz.prog w base spare held m0 33 ((((cs.drop 0).take 8).drop 0).take (Tryz.prog.cellsOf 33)) = ws[0]? := hew 0 _ rfl
  have g1 : DataW.trod enc Tryz.prog w base spare held m0 5 ((((cs.drop 0).take 8).drop 7).take (Tryz.prog.cellsOf 5)) = ws[1]? := hew 1 _ rfl
  rw [hc7, List.getElem?_eq_getElem (by omega)] at g0
  rw [hc1] at g1
  obtain ⟨ys, m2, _, _, _, hny, hey⟩ := DataW.trod_struct Tryz.underlying33 g0
  have hny : ys.length = 2 := hny
  have f0 : DataW.trod enc Tryz.prog w base spare held m2 31 ((((((cs.drop 0).take 8).drop 0).take 7).drop 0).take (Tryz.prog.cellsOf 31)) = ys[0]? := hey 0 _ rfl
  have f1 : DataW.trod enc Tryz.prog w base spare held m2 5 ((((((cs.drop 0).take 8).drop 0).take 7).drop 6).take (Tryz.prog.cellsOf 5)) = ys[1]? := hey 1 _ rfl
  rw [hc6] at f0
  rw [hc1] at f1
  obtain ⟨z, hz, hzb⟩ := bytes_run Tryz.underlying31 f0 (by rw [List.getElem?_eq_getElem (by omega)]; rfl)
  obtain ⟨p, hp, hpb⟩ := cell_u8 f1 (by rw [List.getElem?_eq_getElem (by omega)]; rfl)
  obtain ⟨g, hg, hgb⟩ := cell_u8 g1 (by rw [List.getElem?_eq_getElem (by omega)]; rfl)
  obtain ⟨q, eq, _, wq⟩ := DataW.trod_int Tryz.underlying36 e1
  obtain ⟨t, et, _, wt⟩ := DataW.trod_int Tryz.underlying3 e2
  obtain ⟨s, es, _, ws'⟩ := DataW.trod_int Tryz.underlying56 e3
  have hq : cs[8]? = some (.int .u32 q) := by
    have := congrArg (·[0]?) eq
    simpa [List.getElem?_take, List.getElem?_drop] using this
  have ht : cs[9]? = some (.int .i64 t) := by
    have := congrArg (·[0]?) et
    simpa [List.getElem?_take, List.getElem?_drop] using this
  have hs : cs[10]? = some (.int .u16 s) := by
    have := congrArg (·[0]?) es
    simpa [List.getElem?_take, List.getElem?_drop] using this
  have hqb := wf_u32 wq
  have hsb : 0 ≤ s ∧ s ≤ 65535 := wf_u16 ws'
  have htb : -9223372036854775808 ≤ t ∧ t ≤ 9223372036854775807 := wf_i64 wt
  have hz' : ∀ i, i < 6 → cs[i]? = some (.int .u8 (z i)) := fun i hi => by
    have := hz i hi
    rw [Nat.zero_add, List.drop_zero, List.drop_zero, List.getElem?_take, if_pos (by omega), List.getElem?_take, if_pos (by omega)] at this
    exact this
  have hp' : cs[6]? = some (.int .u8 p) := by
    rw [List.drop_zero, List.drop_zero, List.getElem?_take, if_pos (by omega), List.getElem?_take, if_pos (by omega)] at hp
    exact hp
  have hg' : cs[7]? = some (.int .u8 g) := by
    rw [List.drop_zero, List.getElem?_take, if_pos (by omega)] at hg
    exact hg
  refine ⟨⟨fun j => if j = 6 then p else if j = 7 then g else z j, q.toNat, t, s.toNat⟩, ?_, fun j => ?_, by show q.toNat ≤ _; omega, htb, by show s.toNat ≤ _; omega⟩
  · apply List.ext_getElem?
    intro i
    rcases Nat.lt_or_ge i 11 with h | h
    · rcases (by omega : i = 0 ∨ i = 1 ∨ i = 2 ∨ i = 3 ∨ i = 4 ∨ i = 5 ∨ i = 6 ∨ i = 7 ∨ i = 8 ∨ i = 9 ∨ i = 10) with rfl | rfl | rfl | rfl | rfl | rfl | rfl | rfl | rfl | rfl | rfl
      · exact hz' 0 (by omega)
      · exact hz' 1 (by omega)
      · exact hz' 2 (by omega)
      · exact hz' 3 (by omega)
      · exact hz' 4 (by omega)
      · exact hz' 5 (by omega)
      · exact hp'
      · exact hg'
      · rw [hq]
        show _ = some (Value.int .u32 ((q.toNat : Nat) : Int))
        rw [Int.toNat_of_nonneg hqb.1]
      · exact ht
      · rw [hs]
        show _ = some (Value.int .u16 ((s.toNat : Nat) : Int))
        rw [Int.toNat_of_nonneg hsb.1]
    · rw [List.getElem?_eq_none (by omega), List.getElem?_eq_none (by show 11 ≤ i; omega)]
  · show 0 ≤ (if j = 6 then p else if j = 7 then g else z j) ∧ (if j = 6 then p else if j = 7 then g else z j) ≤ 255
    split
    · exact hpb
    · split
      · exact hgb
      · exact hzb j
end
set_option maxRecDepth 100000 in
theorem open_entry {H : Type} {enc : TypeId × Value → H} {w : World} {base : Nat} {held : Bool} {r : Reach} {b0 : Nat} {v : Value} {d : DataW H} {ps : List MemPlace}
    (hv : Value.okWide Tryz.prog w r b0 58 v) (h : DataW.Trod enc Tryz.prog w base (fun _ => true) held 58 v d ps) : ∃ E, v = .agg (enC E) ∧ EnOk E := by
  simp only [Value.okWide, Tryz.underlying58] at hv
  obtain ⟨ca, rfl, hca, _⟩ := hv
  obtain ⟨fuel, hf⟩ := h
  obtain ⟨r, hc, hr⟩ := entry_cells hf
  exact ⟨r, congrArg Value.agg (Array.toList_inj.1 hc), hr⟩
end Go.Proofs.YtljkcpjkbmbphaaGreat
