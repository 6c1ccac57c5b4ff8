/- Texts of this claim put together; each theorem states its conditions. -/
import Derived.Test.YtkiaijmhoikdiaaGreatGStorePlays10
import Derived.Test.YtkiaijmhoikdiaaGreatGStorePlays3
import Derived.Test.YtkiaijmhoikdiaaGreatGStorePlays9
/- The document's DocRead: what it answers, for all bytes. Each theorem states its conditions. -/
namespace Go.Proofs.YtkiaijmhoikdiaaGreat
open Go.RowKit
set_option linter.unusedVariables false

set_option maxHeartbeats 40000000 in
set_option maxRecDepth 100000 in
theorem dr_main (b off n c : Nat) (z : Nat → Int) (w : World) (hr : Row8 w b off n z) (hc : n ≤ c) (hcm : c ≤ maxLen) (hn2 : n ≤ 1492) (h8 : 8 ≤ n) (q : Nat) (hk : cls (z 4) = q) (hq : q ≤ 4) (hh : hdN q ≤ n) (m : Nat) (hm : Ends (tlZ q z) (n - hdN q) m) :
    Calls Tryz.prog 47 #[.slice (some ⟨b, off, none⟩) n c] w (DrP w q z n m) := by
  obtain ⟨W1, hW1⟩ : ∃ W1, w.alloc (.cells (pdC pd0) 39) = W1 := ⟨_, rfl⟩
  obtain ⟨X, hX⟩ : ∃ X, w.heap.size = X := ⟨_, rfl⟩
  have HX1 : Hid (PdT 39 W1 X pd0) := Lib.hid (by rw [← hW1, ← hX]; exact heap_alloc_new w _)
  have HB1 : Hid (Below w.heap.size w W1) := Lib.hid (by rw [← hW1]; exact (bself w).alloc (Nat.le_refl _) _)
  have HW1 := Lib.hid hW1
  have HXW := Lib.hid hX
  have hXle : w.heap.size ≤ X := by omega
  have fl1 : decide ((1492 : Int) < (n : Int)) = false := by simp; omega
  clear hW1 hX
  have hcm2 : c ≤ 9223372036854775807 := by unfold maxLen at hcm; omega
  have fl8 : decide ((n : Int) < 8) = false := by simp; omega
  have c4 : W1.cell? ⟨b, off + 4, none⟩ = some (.int .u8 (z 4)) := by rw [← hr.2.1 4 (by omega)]; exact HB1.out.cell hr.1
  have HH := Lib.hid (refHead_any (z 4) q hk hq)
  have h4n : (4 : Int) < (n : Int) := by omega
  have h17 := hdN_bd q hq
  have HM := Lib.hid hm
  have hbw : b < w.heap.size := hr.1
  have HR1 : Hid (Row8 W1 b off n z) := Lib.hid (row_keep hr (HB1.out.block _ hr.1))
  have HKQ := Lib.hid (And.intro hk hq)
  obtain ⟨H, hH⟩ : ∃ H, hdN q = H := ⟨_, rfl⟩
  have HHQ := Lib.hid hH
  rw [hH] at HH hh h17 HM
  have fH : ((H : Int) == 0) = false := by simp; omega
  have fl9 : decide ((n : Int) < (H : Int)) = false := by simp; omega
  obtain ⟨P, hP⟩ : ∃ P, W1.heap.size = P := ⟨_, rfl⟩
  obtain ⟨W2, hW2⟩ : ∃ W2, W1.alloc (.cells (pdC pd0) 39) = W2 := ⟨_, rfl⟩
  have HM2 : Hid (PdT 39 W2 P pd0) := Lib.hid (by rw [← hW2, ← hP]; exact heap_alloc_new W1 _)
  have HB2 : Hid (Below P W1 W2) := Lib.hid (by rw [← hW2, ← hP]; exact (bself W1).alloc (Nat.le_refl _) _)
  have HP := Lib.hid hP
  have HW2 := Lib.hid hW2
  have hXP : X < P := by rw [← hP]; exact HX1.out.lt
  have hpz : W2.heap.size = P + 1 := by rw [← hW2, ← hP]; simp
  clear hr hk hH hm hq hP hW2
  go_enter Tryz.func47, Tryz.ntmps47
  go_wp2_with (refine wpList_v (op := ⟨some 2, _, _, _, _, _⟩) rfl _ (alloc_R' _ _ rfl w W1 X HXW.out HW1.out) ?_)
  refine (HH.out _).mono ?_
  rintro e wx ⟨rfl, rfl⟩
  go_wp2_with fail
  refine (HH.out _).mono ?_
  rintro e wx ⟨rfl, rfl⟩
  go_wp2_with (first
    | (refine wpList_v (op := ⟨some 36, _, _, _, _, _⟩) rfl _ (build_1d _ _ (.tmp 35) rfl (z 4) rfl _) ?_)
    | (refine wpList_v (op := ⟨some 4, _, _, _, _, _⟩) rfl _ (alloc_R' _ _ rfl W1 W2 P HP.out HW2.out) ?_)
    | (refine wpList_st rfl 39 (.tmp 4) (.tmp 36) rfl P 0 rfl (.agg (pdC (kdP (z 4)))) (pdC (kdP (z 4))) rfl rfl info_pdR (pdC_one _) HM2.out (Nat.le_of_ble_eq_true rfl) (pd_all _ _) ?_; intro w3 hst3; refine Hid.out ?_))
  refine Lib.hid ?_
  have hb13 : Below P W1 w3 := HB2.out.trans (hst3.2.1 P (Nat.le_refl _))
  have HD3 : Hid (PdT 39 w3 P (kdP (z 4))) := Lib.hid hst3.1
  have HX3 : Hid (PdT 39 w3 X pd0) := Lib.hid ((hb13.block _ hXP).trans HX1.out)
  have HR3 : Hid (Row8 w3 b off n z) := Lib.hid (row_keep HR1.out (hb13.block _ (by omega)))
  have HB3 : Hid (Below w.heap.size w w3) := Lib.hid (HB1.out.trans (hb13.mono (by omega)))
  have hP3 : P < w3.heap.size := HD3.out.lt
  have c0 : w3.cell? ⟨P, 0, none⟩ = some (.int .u8 (z 4)) := (HD3.out.cell 0).trans (pdC_0 _)
  clear hst3 hb13 HM2 HB2 HX1 HR1 HB1 c4 HW2 HP HW1 HXW
  go_wp2_with fail
  refine (HH.out _).mono ?_
  rintro e wx ⟨rfl, rfl⟩
  obtain ⟨AS, hAS⟩ : ∃ AS, (if c = H then some ⟨b, off, none⟩ else some ⟨b, off + H, none⟩ : Option Addr) = AS := ⟨_, rfl⟩
  have HSL := Lib.hid (run_from w3 b off n c H hh hc hcm2)
  have HRS : Hid (Rd w3 AS (n - H) (tlZ q z)) := Lib.hid (by rw [← hAS]; unfold tlZ; rw [HHQ.out]; exact rd_from HR3.out hh hc)
  have hASn : AS ≠ none := by rw [← hAS]; split <;> simp
  rw [hAS] at HSL
  clear hAS
  go_wp2_with (refine wpList_v (op := ⟨some 42, _, _, _, _, _⟩) rfl _ (slice_op _ _ (.tmp 38) (.tmp 41) rfl _ _ rfl rfl _ HSL.out) ?_)
  refine (docsplit_any AS (n - H) (c - H) m (tlZ q z) w3 HRS.out (fun h => absurd h hASn) (by omega) (by omega) (by omega) HM.out).mono ?_
  rintro e w4 (⟨hps, v4, L, rfl, hoT, hI, hb⟩ | ⟨hps, rfl, hb⟩)
  rotate_left
  · have HX4 := Lib.hid (HX3.out.below hb HX3.out.lt)
    have HB4 := Lib.hid (HB3.out.trans (hb.mono HB3.out.size))
    have HPS := Lib.hid hps
    clear hb hps HX3 HB3 HD3 HR3 c0
    go_wp2_with (first
      | (refine wpList_v (op := ⟨some 48, _, _, _, _, _⟩) rfl _ (build_0d _ _ rfl _) ?_)
      | (refine wpList_st rfl 39 (.tmp 2) (.tmp 48) rfl X 0 rfl (.agg (pdC pd0)) (pdC pd0) rfl rfl info_pdR (pdC_one _) HX4.out (Nat.le_of_ble_eq_true rfl) (pd_all _ _) ?_; intro w2 hst2; refine Hid.out ?_))
    refine Lib.hid ?_
    have HX2 : Hid (PdT 39 w2 X pd0) := Lib.hid hst2.1
    have HB2 : Hid (Below w.heap.size w w2) := Lib.hid (HB4.out.trans (hst2.2.1 _ hXle))
    clear hst2
    go_wp2_with fail
    refine bodyPost_ret (results_dr rfl _ w2 X pd0 (.int .i64 3) rfl HX2.out rfl) rfl (.inl ⟨fun h => HPS.out (by rw [← HHQ.out]; exact h.1), rfl, HB2.out⟩)
  obtain ⟨A, cL, rfl, hmc, hcL, hAn, hRT⟩ := hoT.shape
  have HD4 : Hid (DrS w P X b off n z w3.heap.size A m cL L (kdP (z 4)) w4) := Lib.hid ⟨HD3.out.below hb HD3.out.lt, HX3.out.below hb HX3.out.lt, row_keep HR3.out (hb.block _ HR3.out.1), HB3.out.trans (hb.mono HB3.out.size), hoT, hXP, hXle, hbw, hP3, hb.size⟩
  obtain ⟨B, hB⟩ : ∃ B, w3.heap.size = B := ⟨_, rfl⟩
  rw [hB] at HD4
  have HPS := Lib.hid hps
  have HI := Lib.hid hI
  have HAN := Lib.hid (And.intro hAn (And.intro hmc hcL))
  have HWB : w.heap.size ≤ B := by rw [← hB]; exact HB3.out.size
  clear hb hps hI hAn hmc hcL hoT hRT HD3 HX3 HR3 HB3 c0 hP3 HRS HSL hB
  have f30 : ((0 : Int) != 0) = false := rfl
  go_wp2_with (refine wpList_st rfl 37 (.tmp 50) (.tmp 49) rfl P 46 rfl (.slice A m cL) #[.slice A m cL] rfl rfl (by kernel_rfl) (by kernel_rfl) HD4.out.1 (Nat.le_of_ble_eq_true rfl) (C' := pdC (withT (kdP (z 4)) A m cL)) (by kernel_rfl) ?_; intro wq hst5; refine Hid.out ?_)
  refine Lib.hid ?_
  have HD := Lib.hid (HD4.out.put hst5)
  clear hst5 HD4
  have c0 : wq.cell? ⟨P, 0, none⟩ = some (.int .u8 (z 4)) := (HD.out.1.cell 0).trans (pdC_0 _)
  go_upto_block 0 with fail
  go_cut [] (fun wc => Hid (DrS w P X b off n z B A m cL L (swP q z A m cL) wc))
  case first =>
    clear c0 HH HM HI HPS HAN fl1 fl8 fl9 fH f30
    obtain ⟨hk, hq⟩ := HKQ.out
    have hhq := HHQ.out
    clear HKQ HHQ
    rcases cls_cases (z 4) q hk hq with ⟨hk4, rfl⟩ | ⟨hk4, rfl⟩ | ⟨hk4, rfl⟩ | ⟨hk4, rfl⟩ | ⟨hk4, rfl⟩ | ⟨hk4, rfl⟩ | ⟨hk4, rfl⟩ | ⟨hk4, rfl⟩ | ⟨hk4, rfl⟩
    · as_aux_lemma =>
      clear hk hq
      have f15 : (z 4 == 15) = false := by rw [hk4]; rfl
      have f16 : (z 4 == 16) = false := by rw [hk4]; rfl
      have f17 : (z 4 == 17) = true := by rw [hk4]; rfl
      have f18 : (z 4 == 18) = false := by rw [hk4]; rfl
      have f20 : (z 4 == 20) = false := by rw [hk4]; rfl
      have f24 : (z 4 == 24) = false := by rw [hk4]; rfl
      have f25 : (z 4 == 25) = false := by rw [hk4]; rfl
      clear hk4
      have hHn : 20 ≤ n := by have : hdN 0 = 20 := rfl; omega
      clear hhq hh h17
      go_wp2_with fail
      have HDd := Lib.hid (HD.out.below (bself wq).drew)
      refine wp_region_held_drew (S := fun w' => Row8 w' b off n z) (by kernel_rfl) HDd.out.2.2.1 (fun hS => ?_)
      generalize hWq : wq.drew = Wq at hS HDd ⊢
      clear hWq HD
      have HD := HDd
      clear HDd
      refine tY (i := 0) (some 78) (v := .slice (some ⟨b, off, none⟩) n c) rfl rfl (fun w' hS => by go_simp) hS ?_
      simp only [Act.put, pA, pB, pC]
      refine tY (i := 1) (some 79) (v := .pointer (some ⟨b, off + 8, none⟩)) rfl rfl (fun w' hS => by (have hx : (8 : Int) < (n : Int) := (by omega); clear hS; go_simp)) hS ?_
      simp only [Act.put, pA, pB, pC]
      refine tY (i := 2) (some 80) (v := .int .u8 (z 8)) rfl rfl (fun w' hS => by (have c9 : w'.cell? ⟨b, off + 8, none⟩ = some (.int .u8 (z 8))   := (hS.2.1 8 (by omega)); clear hS; go_simp)) hS ?_
      simp only [Act.put, pA, pB, pC]
      refine tY (i := 3) (some 81) (v := .slice (some ⟨b, off, none⟩) n c) rfl rfl (fun w' hS => by go_simp) hS ?_
      simp only [Act.put, pA, pB, pC]
      refine tY (i := 4) (some 82) (v := .slice (some ⟨b, off + 15, none⟩) (n - 15) (c - 15)) rfl rfl (fun w' hS => by exact slice_in _ _ _ (.tmp 81) b off n c 15 15 rfl rfl rfl rfl (by omega) hc (by omega)) hS ?_
      simp only [Act.put, pA, pB, pC]
      refine tY (i := 6) (some 84) (v := .slice (some ⟨b, off, none⟩) n c) rfl rfl (fun w' hS => by go_simp) hS ?_
      simp only [Act.put, pA, pB, pC]
      refine tY (i := 7) (some 85) (v := .pointer (some ⟨b, off + 19, none⟩)) rfl rfl (fun w' hS => by (have hx : (19 : Int) < (n : Int) := (by omega); clear hS; go_simp)) hS ?_
      simp only [Act.put, pA, pB, pC]
      refine tY (i := 8) (some 86) (v := .int .u8 (z 19)) rfl rfl (fun w' hS => by (have c9 : w'.cell? ⟨b, off + 19, none⟩ = some (.int .u8 (z 19))   := (hS.2.1 19 (by omega)); clear hS; go_simp)) hS ?_
      simp only [Act.put, pA, pB, pC]
      refine tY (i := 9) (some 87) (v := .pointer (some ⟨P, 1, none⟩)) rfl rfl (fun w' hS => by go_simp) hS ?_
      simp only [Act.put, pA, pB, pC]
      refine takeC (i := 5) (some 83) 70 #[.slice (some ⟨b, off + 15, none⟩) (n - 15) (c - 15)] (.int .i64 (((numZ (fun j => z (15 + j)) 0 2).toNat : Nat) : Int)) (R := fun w' => Below Wq.heap.size Wq w') rfl rfl (by kernel_rfl) (by rfl) (by go_simp) (number_two b (off + 15) (n - 15) (c - 15) (fun j => z (15 + j)) Wq (hS.shift 15 _ (by omega)) (by omega)) (fun w' hb => row_keep hS (hb.block _ hS.1)) (fun Wn hb1 hS2 => ?_)
      simp only [Act.put, pA, pB, pC]
      have HDn := Lib.hid (HD.out.below hb1)
      clear HD hS hb1
      have HD := HDn
      have hS := hS2
      clear HDn hS2
      revert hS HD
      generalize Wn = Wq
      intro HD hS
      refine takeSt (i := 10) 5 (.tmp 87) (.tmp 80) P 1 (.int .u8 (z (8 + 0))) #[.int .u8 (z (8 + 0))] (pdC (drSet_ci (withT (kdP (z 4)) A m cL) (z (8 + 0)))) rfl rfl (by kernel_rfl) (by rfl) rfl rfl rfl rfl (by kernel_rfl) (by kernel_rfl) HD.out.1 (Nat.le_of_ble_eq_true rfl) (drPut_ci _ _) (fun Wn q1 => ⟨row_keep hS (q1.2.2 _ (by have := HD.out.2.2.2.2.2; omega)), ?_⟩)
      simp only [Act.put, pA, pB, pC]
      have hSn := row_keep hS (q1.2.2 _ (by have := HD.out.2.2.2.2.2; omega))
      have HDn := Lib.hid (HD.out.put (y := (drSet_ci (withT (kdP (z 4)) A m cL) (z (8 + 0)))) q1)
      clear HD hS q1
      have HD := HDn
      have hS := hSn
      clear HDn hSn
      revert hS HD
      generalize Wn = Wq
      intro HD hS
      refine tY (i := 11) (some 88) (v := .pointer (some ⟨P, 9, none⟩)) rfl rfl (fun w' hS => by go_simp) hS ?_
      simp only [Act.put, pA, pB, pC]
      refine takeSt (i := 12) 3 (.tmp 88) (.tmp 83) P 9 (.int .i64 ((((numZ (fun j => z (15 + j)) 0 2).toNat : Nat) : Int))) #[.int .i64 ((((numZ (fun j => z (15 + j)) 0 2).toNat : Nat) : Int))] (pdC (drSet_ho (drSet_ci (withT (kdP (z 4)) A m cL) (z (8 + 0))) ((((numZ (fun j => z (15 + j)) 0 2).toNat : Nat) : Int)))) rfl rfl (by kernel_rfl) (by rfl) rfl rfl rfl rfl (by kernel_rfl) (by kernel_rfl) HD.out.1 (Nat.le_of_ble_eq_true rfl) (drPut_ho _ _) (fun Wn q1 => ⟨row_keep hS (q1.2.2 _ (by have := HD.out.2.2.2.2.2; omega)), ?_⟩)
      simp only [Act.put, pA, pB, pC]
      have hSn := row_keep hS (q1.2.2 _ (by have := HD.out.2.2.2.2.2; omega))
      have HDn := Lib.hid (HD.out.put (y := (drSet_ho (drSet_ci (withT (kdP (z 4)) A m cL) (z (8 + 0))) ((((numZ (fun j => z (15 + j)) 0 2).toNat : Nat) : Int)))) q1)
      clear HD hS q1
      have HD := HDn
      have hS := hSn
      clear HDn hSn
      revert hS HD
      generalize Wn = Wq
      intro HD hS
      refine tY (i := 13) (some 89) (v := .pointer (some ⟨P, 10, none⟩)) rfl rfl (fun w' hS => by go_simp) hS ?_
      simp only [Act.put, pA, pB, pC]
      refine takeSt (i := 14) 5 (.tmp 89) (.tmp 86) P 10 (.int .u8 (z (19 + 0))) #[.int .u8 (z (19 + 0))] (pdC (drSet_nu (drSet_ho (drSet_ci (withT (kdP (z 4)) A m cL) (z (8 + 0))) ((((numZ (fun j => z (15 + j)) 0 2).toNat : Nat) : Int))) (z (19 + 0)))) rfl rfl (by kernel_rfl) (by rfl) rfl rfl rfl rfl (by kernel_rfl) (by kernel_rfl) HD.out.1 (Nat.le_of_ble_eq_true rfl) (drPut_nu _ _) (fun Wn q1 => ⟨row_keep hS (q1.2.2 _ (by have := HD.out.2.2.2.2.2; omega)), ?_⟩)
      simp only [Act.put, pA, pB, pC]
      have hSn := row_keep hS (q1.2.2 _ (by have := HD.out.2.2.2.2.2; omega))
      have HDn := Lib.hid (HD.out.put (y := (drSet_nu (drSet_ho (drSet_ci (withT (kdP (z 4)) A m cL) (z (8 + 0))) ((((numZ (fun j => z (15 + j)) 0 2).toNat : Nat) : Int))) (z (19 + 0)))) q1)
      clear HD hS q1
      have HD := HDn
      have hS := hSn
      clear HDn hSn
      revert hS HD
      generalize Wn = Wq
      intro HD hS
      clear hS
      refine wpAnyH_done (by kernel_rfl) ?_ _
      go_wp2_with fail
      go_meet
      case rel => exact Lib.hid (HD.out.eq (swD_0 z A m cL))
    · as_aux_lemma =>
      clear hk hq
      have f15 : (z 4 == 15) = true := by rw [hk4]; rfl
      have f16 : (z 4 == 16) = false := by rw [hk4]; rfl
      have f17 : (z 4 == 17) = false := by rw [hk4]; rfl
      have f18 : (z 4 == 18) = false := by rw [hk4]; rfl
      have f20 : (z 4 == 20) = false := by rw [hk4]; rfl
      have f24 : (z 4 == 24) = false := by rw [hk4]; rfl
      have f25 : (z 4 == 25) = false := by rw [hk4]; rfl
      clear hk4
      have hHn : 27 ≤ n := by have : hdN 1 = 27 := rfl; omega
      clear hhq hh h17
      go_wp2_with fail
      have HDd := Lib.hid (HD.out.below (bself wq).drew)
      refine wp_region_held_drew (S := fun w' => Row8 w' b off n z) (by kernel_rfl) HDd.out.2.2.1 (fun hS => ?_)
      generalize hWq : wq.drew = Wq at hS HDd ⊢
      clear hWq HD
      have HD := HDd
      clear HDd
      refine tY (i := 0) (some 60) (v := .slice (some ⟨b, off, none⟩) n c) rfl rfl (fun w' hS => by go_simp) hS ?_
      simp only [Act.put, pA, pB, pC]
      refine tY (i := 1) (some 61) (v := .pointer (some ⟨b, off + 8, none⟩)) rfl rfl (fun w' hS => by (have hx : (8 : Int) < (n : Int) := (by omega); clear hS; go_simp)) hS ?_
      simp only [Act.put, pA, pB, pC]
      refine tY (i := 2) (some 62) (v := .int .u8 (z 8)) rfl rfl (fun w' hS => by (have c9 : w'.cell? ⟨b, off + 8, none⟩ = some (.int .u8 (z 8))   := (hS.2.1 8 (by omega)); clear hS; go_simp)) hS ?_
      simp only [Act.put, pA, pB, pC]
      refine tY (i := 3) (some 63) (v := .slice (some ⟨b, off, none⟩) n c) rfl rfl (fun w' hS => by go_simp) hS ?_
      simp only [Act.put, pA, pB, pC]
      refine tY (i := 4) (some 64) (v := .slice (some ⟨b, off + 15, none⟩) (n - 15) (c - 15)) rfl rfl (fun w' hS => by exact slice_in _ _ _ (.tmp 63) b off n c 15 15 rfl rfl rfl rfl (by omega) hc (by omega)) hS ?_
      simp only [Act.put, pA, pB, pC]
      refine tY (i := 6) (some 66) (v := .slice (some ⟨b, off, none⟩) n c) rfl rfl (fun w' hS => by go_simp) hS ?_
      simp only [Act.put, pA, pB, pC]
      refine tY (i := 7) (some 67) (v := .pointer (some ⟨b, off + 19, none⟩)) rfl rfl (fun w' hS => by (have hx : (19 : Int) < (n : Int) := (by omega); clear hS; go_simp)) hS ?_
      simp only [Act.put, pA, pB, pC]
      refine tY (i := 8) (some 68) (v := .int .u8 (z 19)) rfl rfl (fun w' hS => by (have c9 : w'.cell? ⟨b, off + 19, none⟩ = some (.int .u8 (z 19))   := (hS.2.1 19 (by omega)); clear hS; go_simp)) hS ?_
      simp only [Act.put, pA, pB, pC]
      refine tY (i := 9) (some 69) (v := .slice (some ⟨b, off, none⟩) n c) rfl rfl (fun w' hS => by go_simp) hS ?_
      simp only [Act.put, pA, pB, pC]
      refine tY (i := 10) (some 70) (v := .slice (some ⟨b, off + 20, none⟩) (n - 20) (c - 20)) rfl rfl (fun w' hS => by exact slice_in _ _ _ (.tmp 69) b off n c 20 20 rfl rfl rfl rfl (by omega) hc (by omega)) hS ?_
      simp only [Act.put, pA, pB, pC]
      refine tY (i := 12) (some 72) (v := .pointer (some ⟨P, 1, none⟩)) rfl rfl (fun w' hS => by go_simp) hS ?_
      simp only [Act.put, pA, pB, pC]
      refine takeC (i := 5) (some 65) 70 #[.slice (some ⟨b, off + 15, none⟩) (n - 15) (c - 15)] (.int .i64 (((numZ (fun j => z (15 + j)) 0 2).toNat : Nat) : Int)) (R := fun w' => Below Wq.heap.size Wq w') rfl rfl (by kernel_rfl) (by rfl) (by go_simp) (number_two b (off + 15) (n - 15) (c - 15) (fun j => z (15 + j)) Wq (hS.shift 15 _ (by omega)) (by omega)) (fun w' hb => row_keep hS (hb.block _ hS.1)) (fun Wn hb1 hS2 => ?_)
      simp only [Act.put, pA, pB, pC]
      have HDn := Lib.hid (HD.out.below hb1)
      clear HD hS hb1
      have HD := HDn
      have hS := hS2
      clear HDn hS2
      revert hS HD
      generalize Wn = Wq
      intro HD hS
      refine takeC (i := 11) (some 71) 71 #[.slice (some ⟨b, off + 20, none⟩) (n - 20) (c - 20)] (.agg (ndC (fun j => z (20 + j)))) (R := fun w' => Below Wq.heap.size Wq w') rfl rfl (by kernel_rfl) (by rfl) (by go_simp) (nodeAt_any b (off + 20) (n - 20) (c - 20) (fun j => z (20 + j)) Wq (hS.shift 20 _ (by omega)) (by omega) (by omega)) (fun w' hb => row_keep hS (hb.block _ hS.1)) (fun Wn hb1 hS2 => ?_)
      simp only [Act.put, pA, pB, pC]
      have HDn := Lib.hid (HD.out.below hb1)
      clear HD hS hb1
      have HD := HDn
      have hS := hS2
      clear HDn hS2
      revert hS HD
      generalize Wn = Wq
      intro HD hS
      refine takeSt (i := 13) 5 (.tmp 72) (.tmp 62) P 1 (.int .u8 (z (8 + 0))) #[.int .u8 (z (8 + 0))] (pdC (drSet_ci (withT (kdP (z 4)) A m cL) (z (8 + 0)))) rfl rfl (by kernel_rfl) (by rfl) rfl rfl rfl rfl (by kernel_rfl) (by kernel_rfl) HD.out.1 (Nat.le_of_ble_eq_true rfl) (drPut_ci _ _) (fun Wn q1 => ⟨row_keep hS (q1.2.2 _ (by have := HD.out.2.2.2.2.2; omega)), ?_⟩)
      simp only [Act.put, pA, pB, pC]
      have hSn := row_keep hS (q1.2.2 _ (by have := HD.out.2.2.2.2.2; omega))
      have HDn := Lib.hid (HD.out.put (y := (drSet_ci (withT (kdP (z 4)) A m cL) (z (8 + 0)))) q1)
      clear HD hS q1
      have HD := HDn
      have hS := hSn
      clear HDn hSn
      revert hS HD
      generalize Wn = Wq
      intro HD hS
      refine tY (i := 14) (some 73) (v := .pointer (some ⟨P, 9, none⟩)) rfl rfl (fun w' hS => by go_simp) hS ?_
      simp only [Act.put, pA, pB, pC]
      refine takeSt (i := 15) 3 (.tmp 73) (.tmp 65) P 9 (.int .i64 ((((numZ (fun j => z (15 + j)) 0 2).toNat : Nat) : Int))) #[.int .i64 ((((numZ (fun j => z (15 + j)) 0 2).toNat : Nat) : Int))] (pdC (drSet_ho (drSet_ci (withT (kdP (z 4)) A m cL) (z (8 + 0))) ((((numZ (fun j => z (15 + j)) 0 2).toNat : Nat) : Int)))) rfl rfl (by kernel_rfl) (by rfl) rfl rfl rfl rfl (by kernel_rfl) (by kernel_rfl) HD.out.1 (Nat.le_of_ble_eq_true rfl) (drPut_ho _ _) (fun Wn q1 => ⟨row_keep hS (q1.2.2 _ (by have := HD.out.2.2.2.2.2; omega)), ?_⟩)
      simp only [Act.put, pA, pB, pC]
      have hSn := row_keep hS (q1.2.2 _ (by have := HD.out.2.2.2.2.2; omega))
      have HDn := Lib.hid (HD.out.put (y := (drSet_ho (drSet_ci (withT (kdP (z 4)) A m cL) (z (8 + 0))) ((((numZ (fun j => z (15 + j)) 0 2).toNat : Nat) : Int)))) q1)
      clear HD hS q1
      have HD := HDn
      have hS := hSn
      clear HDn hSn
      revert hS HD
      generalize Wn = Wq
      intro HD hS
      refine tY (i := 16) (some 74) (v := .pointer (some ⟨P, 11, none⟩)) rfl rfl (fun w' hS => by go_simp) hS ?_
      simp only [Act.put, pA, pB, pC]
      refine takeSt (i := 17) 5 (.tmp 74) (.tmp 68) P 11 (.int .u8 (z (19 + 0))) #[.int .u8 (z (19 + 0))] (pdC (drSet_pr (drSet_ho (drSet_ci (withT (kdP (z 4)) A m cL) (z (8 + 0))) ((((numZ (fun j => z (15 + j)) 0 2).toNat : Nat) : Int))) (z (19 + 0)))) rfl rfl (by kernel_rfl) (by rfl) rfl rfl rfl rfl (by kernel_rfl) (by kernel_rfl) HD.out.1 (Nat.le_of_ble_eq_true rfl) (drPut_pr _ _) (fun Wn q1 => ⟨row_keep hS (q1.2.2 _ (by have := HD.out.2.2.2.2.2; omega)), ?_⟩)
      simp only [Act.put, pA, pB, pC]
      have hSn := row_keep hS (q1.2.2 _ (by have := HD.out.2.2.2.2.2; omega))
      have HDn := Lib.hid (HD.out.put (y := (drSet_pr (drSet_ho (drSet_ci (withT (kdP (z 4)) A m cL) (z (8 + 0))) ((((numZ (fun j => z (15 + j)) 0 2).toNat : Nat) : Int))) (z (19 + 0)))) q1)
      clear HD hS q1
      have HD := HDn
      have hS := hSn
      clear HDn hSn
      revert hS HD
      generalize Wn = Wq
      intro HD hS
      refine tY (i := 18) (some 75) (v := .pointer (some ⟨P, 12, none⟩)) rfl rfl (fun w' hS => by go_simp) hS ?_
      simp only [Act.put, pA, pB, pC]
      refine takeSt (i := 19) 33 (.tmp 75) (.tmp 71) P 12 (.agg (ndC (fun j => z (20 + j)))) (ndC (fun j => z (20 + j))) (pdC (drSet_la (drSet_pr (drSet_ho (drSet_ci (withT (kdP (z 4)) A m cL) (z (8 + 0))) ((((numZ (fun j => z (15 + j)) 0 2).toNat : Nat) : Int))) (z (19 + 0))) ((fun j => z (20 + j))))) rfl rfl (by kernel_rfl) (by rfl) rfl rfl rfl rfl info_node (nd_all _) HD.out.1 (Nat.le_of_ble_eq_true rfl) (drPut_la _ _) (fun Wn q1 => ⟨row_keep hS (q1.2.2 _ (by have := HD.out.2.2.2.2.2; omega)), ?_⟩)
      simp only [Act.put, pA, pB, pC]
      have hSn := row_keep hS (q1.2.2 _ (by have := HD.out.2.2.2.2.2; omega))
      have HDn := Lib.hid (HD.out.put (y := (drSet_la (drSet_pr (drSet_ho (drSet_ci (withT (kdP (z 4)) A m cL) (z (8 + 0))) ((((numZ (fun j => z (15 + j)) 0 2).toNat : Nat) : Int))) (z (19 + 0))) ((fun j => z (20 + j))))) q1)
      clear HD hS q1
      have HD := HDn
      have hS := hSn
      clear HDn hSn
      revert hS HD
      generalize Wn = Wq
      intro HD hS
      clear hS
      refine wpAnyH_done (by kernel_rfl) ?_ _
      go_wp2_with fail
      go_meet
      case rel => exact Lib.hid (HD.out.eq (swD_1 z A m cL))
    · as_aux_lemma =>
      clear hk hq
      have f15 : (z 4 == 15) = false := by rw [hk4]; rfl
      have f16 : (z 4 == 16) = true := by rw [hk4]; rfl
      have f17 : (z 4 == 17) = false := by rw [hk4]; rfl
      have f18 : (z 4 == 18) = false := by rw [hk4]; rfl
      have f20 : (z 4 == 20) = false := by rw [hk4]; rfl
      have f24 : (z 4 == 24) = false := by rw [hk4]; rfl
      have f25 : (z 4 == 25) = false := by rw [hk4]; rfl
      clear hk4
      have hHn : 27 ≤ n := by have : hdN 1 = 27 := rfl; omega
      clear hhq hh h17
      go_wp2_with fail
      have HDd := Lib.hid (HD.out.below (bself wq).drew)
      refine wp_region_held_drew (S := fun w' => Row8 w' b off n z) (by kernel_rfl) HDd.out.2.2.1 (fun hS => ?_)
      generalize hWq : wq.drew = Wq at hS HDd ⊢
      clear hWq HD
      have HD := HDd
      clear HDd
      refine tY (i := 0) (some 60) (v := .slice (some ⟨b, off, none⟩) n c) rfl rfl (fun w' hS => by go_simp) hS ?_
      simp only [Act.put, pA, pB, pC]
      refine tY (i := 1) (some 61) (v := .pointer (some ⟨b, off + 8, none⟩)) rfl rfl (fun w' hS => by (have hx : (8 : Int) < (n : Int) := (by omega); clear hS; go_simp)) hS ?_
      simp only [Act.put, pA, pB, pC]
      refine tY (i := 2) (some 62) (v := .int .u8 (z 8)) rfl rfl (fun w' hS => by (have c9 : w'.cell? ⟨b, off + 8, none⟩ = some (.int .u8 (z 8))   := (hS.2.1 8 (by omega)); clear hS; go_simp)) hS ?_
      simp only [Act.put, pA, pB, pC]
      refine tY (i := 3) (some 63) (v := .slice (some ⟨b, off, none⟩) n c) rfl rfl (fun w' hS => by go_simp) hS ?_
      simp only [Act.put, pA, pB, pC]
      refine tY (i := 4) (some 64) (v := .slice (some ⟨b, off + 15, none⟩) (n - 15) (c - 15)) rfl rfl (fun w' hS => by exact slice_in _ _ _ (.tmp 63) b off n c 15 15 rfl rfl rfl rfl (by omega) hc (by omega)) hS ?_
      simp only [Act.put, pA, pB, pC]
      refine tY (i := 6) (some 66) (v := .slice (some ⟨b, off, none⟩) n c) rfl rfl (fun w' hS => by go_simp) hS ?_
      simp only [Act.put, pA, pB, pC]
      refine tY (i := 7) (some 67) (v := .pointer (some ⟨b, off + 19, none⟩)) rfl rfl (fun w' hS => by (have hx : (19 : Int) < (n : Int) := (by omega); clear hS; go_simp)) hS ?_
      simp only [Act.put, pA, pB, pC]
      refine tY (i := 8) (some 68) (v := .int .u8 (z 19)) rfl rfl (fun w' hS => by (have c9 : w'.cell? ⟨b, off + 19, none⟩ = some (.int .u8 (z 19))   := (hS.2.1 19 (by omega)); clear hS; go_simp)) hS ?_
      simp only [Act.put, pA, pB, pC]
      refine tY (i := 9) (some 69) (v := .slice (some ⟨b, off, none⟩) n c) rfl rfl (fun w' hS => by go_simp) hS ?_
      simp only [Act.put, pA, pB, pC]
      refine tY (i := 10) (some 70) (v := .slice (some ⟨b, off + 20, none⟩) (n - 20) (c - 20)) rfl rfl (fun w' hS => by exact slice_in _ _ _ (.tmp 69) b off n c 20 20 rfl rfl rfl rfl (by omega) hc (by omega)) hS ?_
      simp only [Act.put, pA, pB, pC]
      refine tY (i := 12) (some 72) (v := .pointer (some ⟨P, 1, none⟩)) rfl rfl (fun w' hS => by go_simp) hS ?_
      simp only [Act.put, pA, pB, pC]
      refine takeC (i := 5) (some 65) 70 #[.slice (some ⟨b, off + 15, none⟩) (n - 15) (c - 15)] (.int .i64 (((numZ (fun j => z (15 + j)) 0 2).toNat : Nat) : Int)) (R := fun w' => Below Wq.heap.size Wq w') rfl rfl (by kernel_rfl) (by rfl) (by go_simp) (number_two b (off + 15) (n - 15) (c - 15) (fun j => z (15 + j)) Wq (hS.shift 15 _ (by omega)) (by omega)) (fun w' hb => row_keep hS (hb.block _ hS.1)) (fun Wn hb1 hS2 => ?_)
      simp only [Act.put, pA, pB, pC]
      have HDn := Lib.hid (HD.out.below hb1)
      clear HD hS hb1
      have HD := HDn
      have hS := hS2
      clear HDn hS2
      revert hS HD
      generalize Wn = Wq
      intro HD hS
      refine takeC (i := 11) (some 71) 71 #[.slice (some ⟨b, off + 20, none⟩) (n - 20) (c - 20)] (.agg (ndC (fun j => z (20 + j)))) (R := fun w' => Below Wq.heap.size Wq w') rfl rfl (by kernel_rfl) (by rfl) (by go_simp) (nodeAt_any b (off + 20) (n - 20) (c - 20) (fun j => z (20 + j)) Wq (hS.shift 20 _ (by omega)) (by omega) (by omega)) (fun w' hb => row_keep hS (hb.block _ hS.1)) (fun Wn hb1 hS2 => ?_)
      simp only [Act.put, pA, pB, pC]
      have HDn := Lib.hid (HD.out.below hb1)
      clear HD hS hb1
      have HD := HDn
      have hS := hS2
      clear HDn hS2
      revert hS HD
      generalize Wn = Wq
      intro HD hS
      refine takeSt (i := 13) 5 (.tmp 72) (.tmp 62) P 1 (.int .u8 (z (8 + 0))) #[.int .u8 (z (8 + 0))] (pdC (drSet_ci (withT (kdP (z 4)) A m cL) (z (8 + 0)))) rfl rfl (by kernel_rfl) (by rfl) rfl rfl rfl rfl (by kernel_rfl) (by kernel_rfl) HD.out.1 (Nat.le_of_ble_eq_true rfl) (drPut_ci _ _) (fun Wn q1 => ⟨row_keep hS (q1.2.2 _ (by have := HD.out.2.2.2.2.2; omega)), ?_⟩)
      simp only [Act.put, pA, pB, pC]
      have hSn := row_keep hS (q1.2.2 _ (by have := HD.out.2.2.2.2.2; omega))
      have HDn := Lib.hid (HD.out.put (y := (drSet_ci (withT (kdP (z 4)) A m cL) (z (8 + 0)))) q1)
      clear HD hS q1
      have HD := HDn
      have hS := hSn
      clear HDn hSn
      revert hS HD
      generalize Wn = Wq
      intro HD hS
      refine tY (i := 14) (some 73) (v := .pointer (some ⟨P, 9, none⟩)) rfl rfl (fun w' hS => by go_simp) hS ?_
      simp only [Act.put, pA, pB, pC]
      refine takeSt (i := 15) 3 (.tmp 73) (.tmp 65) P 9 (.int .i64 ((((numZ (fun j => z (15 + j)) 0 2).toNat : Nat) : Int))) #[.int .i64 ((((numZ (fun j => z (15 + j)) 0 2).toNat : Nat) : Int))] (pdC (drSet_ho (drSet_ci (withT (kdP (z 4)) A m cL) (z (8 + 0))) ((((numZ (fun j => z (15 + j)) 0 2).toNat : Nat) : Int)))) rfl rfl (by kernel_rfl) (by rfl) rfl rfl rfl rfl (by kernel_rfl) (by kernel_rfl) HD.out.1 (Nat.le_of_ble_eq_true rfl) (drPut_ho _ _) (fun Wn q1 => ⟨row_keep hS (q1.2.2 _ (by have := HD.out.2.2.2.2.2; omega)), ?_⟩)
      simp only [Act.put, pA, pB, pC]
      have hSn := row_keep hS (q1.2.2 _ (by have := HD.out.2.2.2.2.2; omega))
      have HDn := Lib.hid (HD.out.put (y := (drSet_ho (drSet_ci (withT (kdP (z 4)) A m cL) (z (8 + 0))) ((((numZ (fun j => z (15 + j)) 0 2).toNat : Nat) : Int)))) q1)
      clear HD hS q1
      have HD := HDn
      have hS := hSn
      clear HDn hSn
      revert hS HD
      generalize Wn = Wq
      intro HD hS
      refine tY (i := 16) (some 74) (v := .pointer (some ⟨P, 11, none⟩)) rfl rfl (fun w' hS => by go_simp) hS ?_
      simp only [Act.put, pA, pB, pC]
      refine takeSt (i := 17) 5 (.tmp 74) (.tmp 68) P 11 (.int .u8 (z (19 + 0))) #[.int .u8 (z (19 + 0))] (pdC (drSet_pr (drSet_ho (drSet_ci (withT (kdP (z 4)) A m cL) (z (8 + 0))) ((((numZ (fun j => z (15 + j)) 0 2).toNat : Nat) : Int))) (z (19 + 0)))) rfl rfl (by kernel_rfl) (by rfl) rfl rfl rfl rfl (by kernel_rfl) (by kernel_rfl) HD.out.1 (Nat.le_of_ble_eq_true rfl) (drPut_pr _ _) (fun Wn q1 => ⟨row_keep hS (q1.2.2 _ (by have := HD.out.2.2.2.2.2; omega)), ?_⟩)
      simp only [Act.put, pA, pB, pC]
      have hSn := row_keep hS (q1.2.2 _ (by have := HD.out.2.2.2.2.2; omega))
      have HDn := Lib.hid (HD.out.put (y := (drSet_pr (drSet_ho (drSet_ci (withT (kdP (z 4)) A m cL) (z (8 + 0))) ((((numZ (fun j => z (15 + j)) 0 2).toNat : Nat) : Int))) (z (19 + 0)))) q1)
      clear HD hS q1
      have HD := HDn
      have hS := hSn
      clear HDn hSn
      revert hS HD
      generalize Wn = Wq
      intro HD hS
      refine tY (i := 18) (some 75) (v := .pointer (some ⟨P, 12, none⟩)) rfl rfl (fun w' hS => by go_simp) hS ?_
      simp only [Act.put, pA, pB, pC]
      refine takeSt (i := 19) 33 (.tmp 75) (.tmp 71) P 12 (.agg (ndC (fun j => z (20 + j)))) (ndC (fun j => z (20 + j))) (pdC (drSet_la (drSet_pr (drSet_ho (drSet_ci (withT (kdP (z 4)) A m cL) (z (8 + 0))) ((((numZ (fun j => z (15 + j)) 0 2).toNat : Nat) : Int))) (z (19 + 0))) ((fun j => z (20 + j))))) rfl rfl (by kernel_rfl) (by rfl) rfl rfl rfl rfl info_node (nd_all _) HD.out.1 (Nat.le_of_ble_eq_true rfl) (drPut_la _ _) (fun Wn q1 => ⟨row_keep hS (q1.2.2 _ (by have := HD.out.2.2.2.2.2; omega)), ?_⟩)
      simp only [Act.put, pA, pB, pC]
      have hSn := row_keep hS (q1.2.2 _ (by have := HD.out.2.2.2.2.2; omega))
      have HDn := Lib.hid (HD.out.put (y := (drSet_la (drSet_pr (drSet_ho (drSet_ci (withT (kdP (z 4)) A m cL) (z (8 + 0))) ((((numZ (fun j => z (15 + j)) 0 2).toNat : Nat) : Int))) (z (19 + 0))) ((fun j => z (20 + j))))) q1)
      clear HD hS q1
      have HD := HDn
      have hS := hSn
      clear HDn hSn
      revert hS HD
      generalize Wn = Wq
      intro HD hS
      clear hS
      refine wpAnyH_done (by kernel_rfl) ?_ _
      go_wp2_with fail
      go_meet
      case rel => exact Lib.hid (HD.out.eq (swD_1 z A m cL))
    · as_aux_lemma =>
      clear hk hq
      have f15 : (z 4 == 15) = false := by rw [hk4]; rfl
      have f16 : (z 4 == 16) = false := by rw [hk4]; rfl
      have f17 : (z 4 == 17) = false := by rw [hk4]; rfl
      have f18 : (z 4 == 18) = true := by rw [hk4]; rfl
      have f20 : (z 4 == 20) = false := by rw [hk4]; rfl
      have f24 : (z 4 == 24) = false := by rw [hk4]; rfl
      have f25 : (z 4 == 25) = false := by rw [hk4]; rfl
      clear hk4
      have hHn : 27 ≤ n := by have : hdN 2 = 27 := rfl; omega
      clear hhq hh h17
      go_wp2_with fail
      have HDd := Lib.hid (HD.out.below (bself wq).drew)
      refine wp_region_held_drew (S := fun w' => Row8 w' b off n z) (by kernel_rfl) HDd.out.2.2.1 (fun hS => ?_)
      generalize hWq : wq.drew = Wq at hS HDd ⊢
      clear hWq HD
      have HD := HDd
      clear HDd
      refine tY (i := 0) (some 93) (v := .slice (some ⟨b, off, none⟩) n c) rfl rfl (fun w' hS => by go_simp) hS ?_
      simp only [Act.put, pA, pB, pC]
      refine tY (i := 1) (some 94) (v := .slice (some ⟨b, off + 10, none⟩) (n - 10) (c - 10)) rfl rfl (fun w' hS => by exact slice_in _ _ _ (.tmp 93) b off n c 10 10 rfl rfl rfl rfl (by omega) hc (by omega)) hS ?_
      simp only [Act.put, pA, pB, pC]
      refine tY (i := 3) (some 96) (v := .slice (some ⟨b, off, none⟩) n c) rfl rfl (fun w' hS => by go_simp) hS ?_
      simp only [Act.put, pA, pB, pC]
      refine tY (i := 4) (some 97) (v := .slice (some ⟨b, off + 12, none⟩) (n - 12) (c - 12)) rfl rfl (fun w' hS => by exact slice_in _ _ _ (.tmp 96) b off n c 12 12 rfl rfl rfl rfl (by omega) hc (by omega)) hS ?_
      simp only [Act.put, pA, pB, pC]
      refine tY (i := 6) (some 99) (v := .slice (some ⟨b, off, none⟩) n c) rfl rfl (fun w' hS => by go_simp) hS ?_
      simp only [Act.put, pA, pB, pC]
      refine tY (i := 7) (some 100) (v := .slice (some ⟨b, off + 20, none⟩) 4 (c - 20)) rfl rfl (fun w' hS => by (have h1 : (24 : Int) ≤ (c : Int) := (by omega); have h2 : ¬ c = 20 := (by omega); clear hS; go_simp; first | done | (rw [if_pos h1, if_neg h2]))) hS ?_
      simp only [Act.put, pA, pB, pC]
      refine tY (i := 10) (some 103) (v := .slice (some ⟨b, off, none⟩) n c) rfl rfl (fun w' hS => by go_simp) hS ?_
      simp only [Act.put, pA, pB, pC]
      refine tY (i := 11) (some 104) (v := .pointer (some ⟨b, off + 26, none⟩)) rfl rfl (fun w' hS => by (have hx : (26 : Int) < (n : Int) := (by omega); clear hS; go_simp)) hS ?_
      simp only [Act.put, pA, pB, pC]
      refine tY (i := 12) (some 105) (v := .int .u8 (z 26)) rfl rfl (fun w' hS => by (have c9 : w'.cell? ⟨b, off + 26, none⟩ = some (.int .u8 (z 26))   := (hS.2.1 26 (by omega)); clear hS; go_simp)) hS ?_
      simp only [Act.put, pA, pB, pC]
      refine takeC (i := 2) (some 95) 70 #[.slice (some ⟨b, off + 10, none⟩) (n - 10) (c - 10)] (.int .i64 (((numZ (fun j => z (10 + j)) 0 2).toNat : Nat) : Int)) (R := fun w' => Below Wq.heap.size Wq w') rfl rfl (by kernel_rfl) (by rfl) (by go_simp) (number_two b (off + 10) (n - 10) (c - 10) (fun j => z (10 + j)) Wq (hS.shift 10 _ (by omega)) (by omega)) (fun w' hb => row_keep hS (hb.block _ hS.1)) (fun Wn hb1 hS2 => ?_)
      simp only [Act.put, pA, pB, pC]
      have HDn := Lib.hid (HD.out.below hb1)
      clear HD hS hb1
      have HD := HDn
      have hS := hS2
      clear HDn hS2
      revert hS HD
      generalize Wn = Wq
      intro HD hS
      refine tY (i := 13) (some 106) (v := .pointer (some ⟨P, 19, none⟩)) rfl rfl (fun w' hS => by go_simp) hS ?_
      simp only [Act.put, pA, pB, pC]
      refine takeC (i := 5) (some 98) 72 #[.slice (some ⟨b, off + 12, none⟩) (n - 12) (c - 12)] (.agg (idC (fun j => z (12 + j)))) (R := fun w' => Below Wq.heap.size Wq w') rfl rfl (by kernel_rfl) (by rfl) (by go_simp) (idAt_any b (off + 12) (n - 12) (c - 12) (fun j => z (12 + j)) Wq (hS.shift 12 _ (by omega)) (by omega) (by omega)) (fun w' hb => row_keep hS (hb.block _ hS.1)) (fun Wn hb1 hS2 => ?_)
      simp only [Act.put, pA, pB, pC]
      have HDn := Lib.hid (HD.out.below hb1)
      clear HD hS hb1
      have HD := HDn
      have hS := hS2
      clear HDn hS2
      revert hS HD
      generalize Wn = Wq
      intro HD hS
      refine takeC (i := 8) (some 101) 49 #[.slice (some ⟨b, off + 20, none⟩) 4 (c - 20)] (.int .u64 (((numZ (fun j => z (20 + j)) 0 4).toNat : Nat) : Int)) (R := fun w' => Below Wq.heap.size Wq w') rfl rfl (by kernel_rfl) (by rfl) (by go_simp) (number_four b (off + 20) (c - 20) (fun j => z (20 + j)) Wq (hS.shift 20 4 (by omega))) (fun w' hb => row_keep hS (hb.block _ hS.1)) (fun Wn hb1 hS2 => ?_)
      simp only [Act.put, pA, pB, pC]
      have HDn := Lib.hid (HD.out.below hb1)
      clear HD hS hb1
      have HD := HDn
      have hS := hS2
      clear HDn hS2
      revert hS HD
      generalize Wn = Wq
      intro HD hS
      refine tY (i := 9) (some 102) (v := .int .u32 (((numZ (fun j => z (20 + j)) 0 4).toNat : Nat) : Int)) rfl rfl (fun w' hS => by (have hq := num4_le z 20 (fun j => hS.2.2 j); clear hS; go_simp; simp [IntKind.wrap, IntKind.signed, IntKind.bits]; omega)) hS ?_
      simp only [Act.put, pA, pB, pC]
      refine takeSt (i := 14) 3 (.tmp 106) (.tmp 95) P 19 (.int .i64 ((((numZ (fun j => z (10 + j)) 0 2).toNat : Nat) : Int))) #[.int .i64 ((((numZ (fun j => z (10 + j)) 0 2).toNat : Nat) : Int))] (pdC (drSet_li (withT (kdP (z 4)) A m cL) ((((numZ (fun j => z (10 + j)) 0 2).toNat : Nat) : Int)))) rfl rfl (by kernel_rfl) (by rfl) rfl rfl rfl rfl (by kernel_rfl) (by kernel_rfl) HD.out.1 (Nat.le_of_ble_eq_true rfl) (drPut_li _ _) (fun Wn q1 => ⟨row_keep hS (q1.2.2 _ (by have := HD.out.2.2.2.2.2; omega)), ?_⟩)
      simp only [Act.put, pA, pB, pC]
      have hSn := row_keep hS (q1.2.2 _ (by have := HD.out.2.2.2.2.2; omega))
      have HDn := Lib.hid (HD.out.put (y := (drSet_li (withT (kdP (z 4)) A m cL) ((((numZ (fun j => z (10 + j)) 0 2).toNat : Nat) : Int)))) q1)
      clear HD hS q1
      have HD := HDn
      have hS := hSn
      clear HDn hSn
      revert hS HD
      generalize Wn = Wq
      intro HD hS
      refine tY (i := 15) (some 107) (v := .pointer (some ⟨P, 20, none⟩)) rfl rfl (fun w' hS => by go_simp) hS ?_
      simp only [Act.put, pA, pB, pC]
      refine takeSt (i := 16) 35 (.tmp 107) (.tmp 98) P 20 (.agg (idC (fun j => z (12 + j)))) (idC (fun j => z (12 + j))) (pdC (drSet_id (drSet_li (withT (kdP (z 4)) A m cL) ((((numZ (fun j => z (10 + j)) 0 2).toNat : Nat) : Int))) ((fun j => z (12 + j))))) rfl rfl (by kernel_rfl) (by rfl) rfl rfl rfl rfl info_id (id_all _) HD.out.1 (Nat.le_of_ble_eq_true rfl) (drPut_id _ _) (fun Wn q1 => ⟨row_keep hS (q1.2.2 _ (by have := HD.out.2.2.2.2.2; omega)), ?_⟩)
      simp only [Act.put, pA, pB, pC]
      have hSn := row_keep hS (q1.2.2 _ (by have := HD.out.2.2.2.2.2; omega))
      have HDn := Lib.hid (HD.out.put (y := (drSet_id (drSet_li (withT (kdP (z 4)) A m cL) ((((numZ (fun j => z (10 + j)) 0 2).toNat : Nat) : Int))) ((fun j => z (12 + j))))) q1)
      clear HD hS q1
      have HD := HDn
      have hS := hSn
      clear HDn hSn
      revert hS HD
      generalize Wn = Wq
      intro HD hS
      refine tY (i := 17) (some 108) (v := .pointer (some ⟨P, 28, none⟩)) rfl rfl (fun w' hS => by go_simp) hS ?_
      simp only [Act.put, pA, pB, pC]
      refine takeSt (i := 18) 36 (.tmp 108) (.tmp 102) P 28 (.int .u32 (((numZ (fun j => z (20 + j)) 0 4).toNat : Nat) : Int)) #[.int .u32 (((numZ (fun j => z (20 + j)) 0 4).toNat : Nat) : Int)] (pdC (drSet_sq (drSet_id (drSet_li (withT (kdP (z 4)) A m cL) ((((numZ (fun j => z (10 + j)) 0 2).toNat : Nat) : Int))) ((fun j => z (12 + j)))) ((numZ (fun j => z (20 + j)) 0 4).toNat))) rfl rfl (by kernel_rfl) (by rfl) rfl rfl rfl rfl (by kernel_rfl) (by kernel_rfl) HD.out.1 (Nat.le_of_ble_eq_true rfl) (drPut_sq _ _) (fun Wn q1 => ⟨row_keep hS (q1.2.2 _ (by have := HD.out.2.2.2.2.2; omega)), ?_⟩)
      simp only [Act.put, pA, pB, pC]
      have hSn := row_keep hS (q1.2.2 _ (by have := HD.out.2.2.2.2.2; omega))
      have HDn := Lib.hid (HD.out.put (y := (drSet_sq (drSet_id (drSet_li (withT (kdP (z 4)) A m cL) ((((numZ (fun j => z (10 + j)) 0 2).toNat : Nat) : Int))) ((fun j => z (12 + j)))) ((numZ (fun j => z (20 + j)) 0 4).toNat))) q1)
      clear HD hS q1
      have HD := HDn
      have hS := hSn
      clear HDn hSn
      revert hS HD
      generalize Wn = Wq
      intro HD hS
      refine tY (i := 19) (some 109) (v := .pointer (some ⟨P, 29, none⟩)) rfl rfl (fun w' hS => by go_simp) hS ?_
      simp only [Act.put, pA, pB, pC]
      refine takeSt (i := 20) 5 (.tmp 109) (.tmp 105) P 29 (.int .u8 (z (26 + 0))) #[.int .u8 (z (26 + 0))] (pdC (drSet_bi (drSet_sq (drSet_id (drSet_li (withT (kdP (z 4)) A m cL) ((((numZ (fun j => z (10 + j)) 0 2).toNat : Nat) : Int))) ((fun j => z (12 + j)))) ((numZ (fun j => z (20 + j)) 0 4).toNat)) (z (26 + 0)))) rfl rfl (by kernel_rfl) (by rfl) rfl rfl rfl rfl (by kernel_rfl) (by kernel_rfl) HD.out.1 (Nat.le_of_ble_eq_true rfl) (drPut_bi _ _) (fun Wn q1 => ⟨row_keep hS (q1.2.2 _ (by have := HD.out.2.2.2.2.2; omega)), ?_⟩)
      simp only [Act.put, pA, pB, pC]
      have hSn := row_keep hS (q1.2.2 _ (by have := HD.out.2.2.2.2.2; omega))
      have HDn := Lib.hid (HD.out.put (y := (drSet_bi (drSet_sq (drSet_id (drSet_li (withT (kdP (z 4)) A m cL) ((((numZ (fun j => z (10 + j)) 0 2).toNat : Nat) : Int))) ((fun j => z (12 + j)))) ((numZ (fun j => z (20 + j)) 0 4).toNat)) (z (26 + 0)))) q1)
      clear HD hS q1
      have HD := HDn
      have hS := hSn
      clear HDn hSn
      revert hS HD
      generalize Wn = Wq
      intro HD hS
      clear hS
      refine wpAnyH_done (by kernel_rfl) ?_ _
      go_wp2_with fail
      go_meet
      case rel => exact Lib.hid (HD.out.eq (swD_2 z A m cL))
    · as_aux_lemma =>
      clear hk hq
      have f15 : (z 4 == 15) = false := by rw [hk4]; rfl
      have f16 : (z 4 == 16) = false := by rw [hk4]; rfl
      have f17 : (z 4 == 17) = false := by rw [hk4]; rfl
      have f18 : (z 4 == 18) = false := by rw [hk4]; rfl
      have f20 : (z 4 == 20) = true := by rw [hk4]; rfl
      have f24 : (z 4 == 24) = false := by rw [hk4]; rfl
      have f25 : (z 4 == 25) = false := by rw [hk4]; rfl
      clear hk4
      have hHn : 27 ≤ n := by have : hdN 2 = 27 := rfl; omega
      clear hhq hh h17
      go_wp2_with fail
      have HDd := Lib.hid (HD.out.below (bself wq).drew)
      refine wp_region_held_drew (S := fun w' => Row8 w' b off n z) (by kernel_rfl) HDd.out.2.2.1 (fun hS => ?_)
      generalize hWq : wq.drew = Wq at hS HDd ⊢
      clear hWq HD
      have HD := HDd
      clear HDd
      refine tY (i := 0) (some 93) (v := .slice (some ⟨b, off, none⟩) n c) rfl rfl (fun w' hS => by go_simp) hS ?_
      simp only [Act.put, pA, pB, pC]
      refine tY (i := 1) (some 94) (v := .slice (some ⟨b, off + 10, none⟩) (n - 10) (c - 10)) rfl rfl (fun w' hS => by exact slice_in _ _ _ (.tmp 93) b off n c 10 10 rfl rfl rfl rfl (by omega) hc (by omega)) hS ?_
      simp only [Act.put, pA, pB, pC]
      refine tY (i := 3) (some 96) (v := .slice (some ⟨b, off, none⟩) n c) rfl rfl (fun w' hS => by go_simp) hS ?_
      simp only [Act.put, pA, pB, pC]
      refine tY (i := 4) (some 97) (v := .slice (some ⟨b, off + 12, none⟩) (n - 12) (c - 12)) rfl rfl (fun w' hS => by exact slice_in _ _ _ (.tmp 96) b off n c 12 12 rfl rfl rfl rfl (by omega) hc (by omega)) hS ?_
      simp only [Act.put, pA, pB, pC]
      refine tY (i := 6) (some 99) (v := .slice (some ⟨b, off, none⟩) n c) rfl rfl (fun w' hS => by go_simp) hS ?_
      simp only [Act.put, pA, pB, pC]
      refine tY (i := 7) (some 100) (v := .slice (some ⟨b, off + 20, none⟩) 4 (c - 20)) rfl rfl (fun w' hS => by (have h1 : (24 : Int) ≤ (c : Int) := (by omega); have h2 : ¬ c = 20 := (by omega); clear hS; go_simp; first | done | (rw [if_pos h1, if_neg h2]))) hS ?_
      simp only [Act.put, pA, pB, pC]
      refine tY (i := 10) (some 103) (v := .slice (some ⟨b, off, none⟩) n c) rfl rfl (fun w' hS => by go_simp) hS ?_
      simp only [Act.put, pA, pB, pC]
      refine tY (i := 11) (some 104) (v := .pointer (some ⟨b, off + 26, none⟩)) rfl rfl (fun w' hS => by (have hx : (26 : Int) < (n : Int) := (by omega); clear hS; go_simp)) hS ?_
      simp only [Act.put, pA, pB, pC]
      refine tY (i := 12) (some 105) (v := .int .u8 (z 26)) rfl rfl (fun w' hS => by (have c9 : w'.cell? ⟨b, off + 26, none⟩ = some (.int .u8 (z 26))   := (hS.2.1 26 (by omega)); clear hS; go_simp)) hS ?_
      simp only [Act.put, pA, pB, pC]
      refine takeC (i := 2) (some 95) 70 #[.slice (some ⟨b, off + 10, none⟩) (n - 10) (c - 10)] (.int .i64 (((numZ (fun j => z (10 + j)) 0 2).toNat : Nat) : Int)) (R := fun w' => Below Wq.heap.size Wq w') rfl rfl (by kernel_rfl) (by rfl) (by go_simp) (number_two b (off + 10) (n - 10) (c - 10) (fun j => z (10 + j)) Wq (hS.shift 10 _ (by omega)) (by omega)) (fun w' hb => row_keep hS (hb.block _ hS.1)) (fun Wn hb1 hS2 => ?_)
      simp only [Act.put, pA, pB, pC]
      have HDn := Lib.hid (HD.out.below hb1)
      clear HD hS hb1
      have HD := HDn
      have hS := hS2
      clear HDn hS2
      revert hS HD
      generalize Wn = Wq
      intro HD hS
      refine tY (i := 13) (some 106) (v := .pointer (some ⟨P, 19, none⟩)) rfl rfl (fun w' hS => by go_simp) hS ?_
      simp only [Act.put, pA, pB, pC]
      refine takeC (i := 5) (some 98) 72 #[.slice (some ⟨b, off + 12, none⟩) (n - 12) (c - 12)] (.agg (idC (fun j => z (12 + j)))) (R := fun w' => Below Wq.heap.size Wq w') rfl rfl (by kernel_rfl) (by rfl) (by go_simp) (idAt_any b (off + 12) (n - 12) (c - 12) (fun j => z (12 + j)) Wq (hS.shift 12 _ (by omega)) (by omega) (by omega)) (fun w' hb => row_keep hS (hb.block _ hS.1)) (fun Wn hb1 hS2 => ?_)
      simp only [Act.put, pA, pB, pC]
      have HDn := Lib.hid (HD.out.below hb1)
      clear HD hS hb1
      have HD := HDn
      have hS := hS2
      clear HDn hS2
      revert hS HD
      generalize Wn = Wq
      intro HD hS
      refine takeC (i := 8) (some 101) 49 #[.slice (some ⟨b, off + 20, none⟩) 4 (c - 20)] (.int .u64 (((numZ (fun j => z (20 + j)) 0 4).toNat : Nat) : Int)) (R := fun w' => Below Wq.heap.size Wq w') rfl rfl (by kernel_rfl) (by rfl) (by go_simp) (number_four b (off + 20) (c - 20) (fun j => z (20 + j)) Wq (hS.shift 20 4 (by omega))) (fun w' hb => row_keep hS (hb.block _ hS.1)) (fun Wn hb1 hS2 => ?_)
      simp only [Act.put, pA, pB, pC]
      have HDn := Lib.hid (HD.out.below hb1)
      clear HD hS hb1
      have HD := HDn
      have hS := hS2
      clear HDn hS2
      revert hS HD
      generalize Wn = Wq
      intro HD hS
      refine tY (i := 9) (some 102) (v := .int .u32 (((numZ (fun j => z (20 + j)) 0 4).toNat : Nat) : Int)) rfl rfl (fun w' hS => by (have hq := num4_le z 20 (fun j => hS.2.2 j); clear hS; go_simp; simp [IntKind.wrap, IntKind.signed, IntKind.bits]; omega)) hS ?_
      simp only [Act.put, pA, pB, pC]
      refine takeSt (i := 14) 3 (.tmp 106) (.tmp 95) P 19 (.int .i64 ((((numZ (fun j => z (10 + j)) 0 2).toNat : Nat) : Int))) #[.int .i64 ((((numZ (fun j => z (10 + j)) 0 2).toNat : Nat) : Int))] (pdC (drSet_li (withT (kdP (z 4)) A m cL) ((((numZ (fun j => z (10 + j)) 0 2).toNat : Nat) : Int)))) rfl rfl (by kernel_rfl) (by rfl) rfl rfl rfl rfl (by kernel_rfl) (by kernel_rfl) HD.out.1 (Nat.le_of_ble_eq_true rfl) (drPut_li _ _) (fun Wn q1 => ⟨row_keep hS (q1.2.2 _ (by have := HD.out.2.2.2.2.2; omega)), ?_⟩)
      simp only [Act.put, pA, pB, pC]
      have hSn := row_keep hS (q1.2.2 _ (by have := HD.out.2.2.2.2.2; omega))
      have HDn := Lib.hid (HD.out.put (y := (drSet_li (withT (kdP (z 4)) A m cL) ((((numZ (fun j => z (10 + j)) 0 2).toNat : Nat) : Int)))) q1)
      clear HD hS q1
      have HD := HDn
      have hS := hSn
      clear HDn hSn
      revert hS HD
      generalize Wn = Wq
      intro HD hS
      refine tY (i := 15) (some 107) (v := .pointer (some ⟨P, 20, none⟩)) rfl rfl (fun w' hS => by go_simp) hS ?_
      simp only [Act.put, pA, pB, pC]
      refine takeSt (i := 16) 35 (.tmp 107) (.tmp 98) P 20 (.agg (idC (fun j => z (12 + j)))) (idC (fun j => z (12 + j))) (pdC (drSet_id (drSet_li (withT (kdP (z 4)) A m cL) ((((numZ (fun j => z (10 + j)) 0 2).toNat : Nat) : Int))) ((fun j => z (12 + j))))) rfl rfl (by kernel_rfl) (by rfl) rfl rfl rfl rfl info_id (id_all _) HD.out.1 (Nat.le_of_ble_eq_true rfl) (drPut_id _ _) (fun Wn q1 => ⟨row_keep hS (q1.2.2 _ (by have := HD.out.2.2.2.2.2; omega)), ?_⟩)
      simp only [Act.put, pA, pB, pC]
      have hSn := row_keep hS (q1.2.2 _ (by have := HD.out.2.2.2.2.2; omega))
      have HDn := Lib.hid (HD.out.put (y := (drSet_id (drSet_li (withT (kdP (z 4)) A m cL) ((((numZ (fun j => z (10 + j)) 0 2).toNat : Nat) : Int))) ((fun j => z (12 + j))))) q1)
      clear HD hS q1
      have HD := HDn
      have hS := hSn
      clear HDn hSn
      revert hS HD
      generalize Wn = Wq
      intro HD hS
      refine tY (i := 17) (some 108) (v := .pointer (some ⟨P, 28, none⟩)) rfl rfl (fun w' hS => by go_simp) hS ?_
      simp only [Act.put, pA, pB, pC]
      refine takeSt (i := 18) 36 (.tmp 108) (.tmp 102) P 28 (.int .u32 (((numZ (fun j => z (20 + j)) 0 4).toNat : Nat) : Int)) #[.int .u32 (((numZ (fun j => z (20 + j)) 0 4).toNat : Nat) : Int)] (pdC (drSet_sq (drSet_id (drSet_li (withT (kdP (z 4)) A m cL) ((((numZ (fun j => z (10 + j)) 0 2).toNat : Nat) : Int))) ((fun j => z (12 + j)))) ((numZ (fun j => z (20 + j)) 0 4).toNat))) rfl rfl (by kernel_rfl) (by rfl) rfl rfl rfl rfl (by kernel_rfl) (by kernel_rfl) HD.out.1 (Nat.le_of_ble_eq_true rfl) (drPut_sq _ _) (fun Wn q1 => ⟨row_keep hS (q1.2.2 _ (by have := HD.out.2.2.2.2.2; omega)), ?_⟩)
      simp only [Act.put, pA, pB, pC]
      have hSn := row_keep hS (q1.2.2 _ (by have := HD.out.2.2.2.2.2; omega))
      have HDn := Lib.hid (HD.out.put (y := (drSet_sq (drSet_id (drSet_li (withT (kdP (z 4)) A m cL) ((((numZ (fun j => z (10 + j)) 0 2).toNat : Nat) : Int))) ((fun j => z (12 + j)))) ((numZ (fun j => z (20 + j)) 0 4).toNat))) q1)
      clear HD hS q1
      have HD := HDn
      have hS := hSn
      clear HDn hSn
      revert hS HD
      generalize Wn = Wq
      intro HD hS
      refine tY (i := 19) (some 109) (v := .pointer (some ⟨P, 29, none⟩)) rfl rfl (fun w' hS => by go_simp) hS ?_
      simp only [Act.put, pA, pB, pC]
      refine takeSt (i := 20) 5 (.tmp 109) (.tmp 105) P 29 (.int .u8 (z (26 + 0))) #[.int .u8 (z (26 + 0))] (pdC (drSet_bi (drSet_sq (drSet_id (drSet_li (withT (kdP (z 4)) A m cL) ((((numZ (fun j => z (10 + j)) 0 2).toNat : Nat) : Int))) ((fun j => z (12 + j)))) ((numZ (fun j => z (20 + j)) 0 4).toNat)) (z (26 + 0)))) rfl rfl (by kernel_rfl) (by rfl) rfl rfl rfl rfl (by kernel_rfl) (by kernel_rfl) HD.out.1 (Nat.le_of_ble_eq_true rfl) (drPut_bi _ _) (fun Wn q1 => ⟨row_keep hS (q1.2.2 _ (by have := HD.out.2.2.2.2.2; omega)), ?_⟩)
      simp only [Act.put, pA, pB, pC]
      have hSn := row_keep hS (q1.2.2 _ (by have := HD.out.2.2.2.2.2; omega))
      have HDn := Lib.hid (HD.out.put (y := (drSet_bi (drSet_sq (drSet_id (drSet_li (withT (kdP (z 4)) A m cL) ((((numZ (fun j => z (10 + j)) 0 2).toNat : Nat) : Int))) ((fun j => z (12 + j)))) ((numZ (fun j => z (20 + j)) 0 4).toNat)) (z (26 + 0)))) q1)
      clear HD hS q1
      have HD := HDn
      have hS := hSn
      clear HDn hSn
      revert hS HD
      generalize Wn = Wq
      intro HD hS
      clear hS
      refine wpAnyH_done (by kernel_rfl) ?_ _
      go_wp2_with fail
      go_meet
      case rel => exact Lib.hid (HD.out.eq (swD_2 z A m cL))
    · as_aux_lemma =>
      clear hk hq
      have f15 : (z 4 == 15) = false := by rw [hk4]; rfl
      have f16 : (z 4 == 16) = false := by rw [hk4]; rfl
      have f17 : (z 4 == 17) = false := by rw [hk4]; rfl
      have f18 : (z 4 == 18) = false := by rw [hk4]; rfl
      have f20 : (z 4 == 20) = false := by rw [hk4]; rfl
      have f24 : (z 4 == 24) = true := by rw [hk4]; rfl
      have f25 : (z 4 == 25) = false := by rw [hk4]; rfl
      clear hk4
      have hHn : 33 ≤ n := by have : hdN 3 = 33 := rfl; omega
      clear hhq hh h17
      go_wp2_with fail
      have HDd := Lib.hid (HD.out.below (bself wq).drew)
      refine wp_region_held_drew (S := fun w' => Row8 w' b off n z) (by kernel_rfl) HDd.out.2.2.1 (fun hS => ?_)
      generalize hWq : wq.drew = Wq at hS HDd ⊢
      clear hWq HD
      have HD := HDd
      clear HDd
      refine tY (i := 0) (some 113) (v := .slice (some ⟨b, off, none⟩) n c) rfl rfl (fun w' hS => by go_simp) hS ?_
      simp only [Act.put, pA, pB, pC]
      refine tY (i := 1) (some 114) (v := .slice (some ⟨b, off + 10, none⟩) (n - 10) (c - 10)) rfl rfl (fun w' hS => by exact slice_in _ _ _ (.tmp 113) b off n c 10 10 rfl rfl rfl rfl (by omega) hc (by omega)) hS ?_
      simp only [Act.put, pA, pB, pC]
      refine tY (i := 3) (some 116) (v := .slice (some ⟨b, off, none⟩) n c) rfl rfl (fun w' hS => by go_simp) hS ?_
      simp only [Act.put, pA, pB, pC]
      refine tY (i := 4) (some 117) (v := .slice (some ⟨b, off + 17, none⟩) (n - 17) (c - 17)) rfl rfl (fun w' hS => by exact slice_in _ _ _ (.tmp 116) b off n c 17 17 rfl rfl rfl rfl (by omega) hc (by omega)) hS ?_
      simp only [Act.put, pA, pB, pC]
      refine tY (i := 6) (some 119) (v := .slice (some ⟨b, off, none⟩) n c) rfl rfl (fun w' hS => by go_simp) hS ?_
      simp only [Act.put, pA, pB, pC]
      refine tY (i := 7) (some 120) (v := .slice (some ⟨b, off + 25, none⟩) (n - 25) (c - 25)) rfl rfl (fun w' hS => by exact slice_in _ _ _ (.tmp 119) b off n c 25 25 rfl rfl rfl rfl (by omega) hc (by omega)) hS ?_
      simp only [Act.put, pA, pB, pC]
      refine takeC (i := 2) (some 115) 71 #[.slice (some ⟨b, off + 10, none⟩) (n - 10) (c - 10)] (.agg (ndC (fun j => z (10 + j)))) (R := fun w' => Below Wq.heap.size Wq w') rfl rfl (by kernel_rfl) (by rfl) (by go_simp) (nodeAt_any b (off + 10) (n - 10) (c - 10) (fun j => z (10 + j)) Wq (hS.shift 10 _ (by omega)) (by omega) (by omega)) (fun w' hb => row_keep hS (hb.block _ hS.1)) (fun Wn hb1 hS2 => ?_)
      simp only [Act.put, pA, pB, pC]
      have HDn := Lib.hid (HD.out.below hb1)
      clear HD hS hb1
      have HD := HDn
      have hS := hS2
      clear HDn hS2
      revert hS HD
      generalize Wn = Wq
      intro HD hS
      refine tY (i := 9) (some 122) (v := .pointer (some ⟨P, 2, none⟩)) rfl rfl (fun w' hS => by go_simp) hS ?_
      simp only [Act.put, pA, pB, pC]
      refine takeC (i := 5) (some 118) 72 #[.slice (some ⟨b, off + 17, none⟩) (n - 17) (c - 17)] (.agg (idC (fun j => z (17 + j)))) (R := fun w' => Below Wq.heap.size Wq w') rfl rfl (by kernel_rfl) (by rfl) (by go_simp) (idAt_any b (off + 17) (n - 17) (c - 17) (fun j => z (17 + j)) Wq (hS.shift 17 _ (by omega)) (by omega) (by omega)) (fun w' hb => row_keep hS (hb.block _ hS.1)) (fun Wn hb1 hS2 => ?_)
      simp only [Act.put, pA, pB, pC]
      have HDn := Lib.hid (HD.out.below hb1)
      clear HD hS hb1
      have HD := HDn
      have hS := hS2
      clear HDn hS2
      revert hS HD
      generalize Wn = Wq
      intro HD hS
      refine takeC (i := 8) (some 121) 72 #[.slice (some ⟨b, off + 25, none⟩) (n - 25) (c - 25)] (.agg (idC (fun j => z (25 + j)))) (R := fun w' => Below Wq.heap.size Wq w') rfl rfl (by kernel_rfl) (by rfl) (by go_simp) (idAt_any b (off + 25) (n - 25) (c - 25) (fun j => z (25 + j)) Wq (hS.shift 25 _ (by omega)) (by omega) (by omega)) (fun w' hb => row_keep hS (hb.block _ hS.1)) (fun Wn hb1 hS2 => ?_)
      simp only [Act.put, pA, pB, pC]
      have HDn := Lib.hid (HD.out.below hb1)
      clear HD hS hb1
      have HD := HDn
      have hS := hS2
      clear HDn hS2
      revert hS HD
      generalize Wn = Wq
      intro HD hS
      refine takeSt (i := 10) 33 (.tmp 122) (.tmp 115) P 2 (.agg (ndC (fun j => z (10 + j)))) (ndC (fun j => z (10 + j))) (pdC (drSet_so (withT (kdP (z 4)) A m cL) ((fun j => z (10 + j))))) rfl rfl (by kernel_rfl) (by rfl) rfl rfl rfl rfl info_node (nd_all _) HD.out.1 (Nat.le_of_ble_eq_true rfl) (drPut_so _ _) (fun Wn q1 => ⟨row_keep hS (q1.2.2 _ (by have := HD.out.2.2.2.2.2; omega)), ?_⟩)
      simp only [Act.put, pA, pB, pC]
      have hSn := row_keep hS (q1.2.2 _ (by have := HD.out.2.2.2.2.2; omega))
      have HDn := Lib.hid (HD.out.put (y := (drSet_so (withT (kdP (z 4)) A m cL) ((fun j => z (10 + j))))) q1)
      clear HD hS q1
      have HD := HDn
      have hS := hSn
      clear HDn hSn
      revert hS HD
      generalize Wn = Wq
      intro HD hS
      refine tY (i := 11) (some 123) (v := .pointer (some ⟨P, 30, none⟩)) rfl rfl (fun w' hS => by go_simp) hS ?_
      simp only [Act.put, pA, pB, pC]
      refine takeSt (i := 12) 35 (.tmp 123) (.tmp 118) P 30 (.agg (idC (fun j => z (17 + j)))) (idC (fun j => z (17 + j))) (pdC (drSet_st (drSet_so (withT (kdP (z 4)) A m cL) ((fun j => z (10 + j)))) ((fun j => z (17 + j))))) rfl rfl (by kernel_rfl) (by rfl) rfl rfl rfl rfl info_id (id_all _) HD.out.1 (Nat.le_of_ble_eq_true rfl) (drPut_st _ _) (fun Wn q1 => ⟨row_keep hS (q1.2.2 _ (by have := HD.out.2.2.2.2.2; omega)), ?_⟩)
      simp only [Act.put, pA, pB, pC]
      have hSn := row_keep hS (q1.2.2 _ (by have := HD.out.2.2.2.2.2; omega))
      have HDn := Lib.hid (HD.out.put (y := (drSet_st (drSet_so (withT (kdP (z 4)) A m cL) ((fun j => z (10 + j)))) ((fun j => z (17 + j))))) q1)
      clear HD hS q1
      have HD := HDn
      have hS := hSn
      clear HDn hSn
      revert hS HD
      generalize Wn = Wq
      intro HD hS
      refine tY (i := 13) (some 124) (v := .pointer (some ⟨P, 38, none⟩)) rfl rfl (fun w' hS => by go_simp) hS ?_
      simp only [Act.put, pA, pB, pC]
      refine takeSt (i := 14) 35 (.tmp 124) (.tmp 121) P 38 (.agg (idC (fun j => z (25 + j)))) (idC (fun j => z (25 + j))) (pdC (drSet_en (drSet_st (drSet_so (withT (kdP (z 4)) A m cL) ((fun j => z (10 + j)))) ((fun j => z (17 + j)))) ((fun j => z (25 + j))))) rfl rfl (by kernel_rfl) (by rfl) rfl rfl rfl rfl info_id (id_all _) HD.out.1 (Nat.le_of_ble_eq_true rfl) (drPut_en _ _) (fun Wn q1 => ⟨row_keep hS (q1.2.2 _ (by have := HD.out.2.2.2.2.2; omega)), ?_⟩)
      simp only [Act.put, pA, pB, pC]
      have hSn := row_keep hS (q1.2.2 _ (by have := HD.out.2.2.2.2.2; omega))
      have HDn := Lib.hid (HD.out.put (y := (drSet_en (drSet_st (drSet_so (withT (kdP (z 4)) A m cL) ((fun j => z (10 + j)))) ((fun j => z (17 + j)))) ((fun j => z (25 + j))))) q1)
      clear HD hS q1
      have HD := HDn
      have hS := hSn
      clear HDn hSn
      revert hS HD
      generalize Wn = Wq
      intro HD hS
      clear hS
      refine wpAnyH_done (by kernel_rfl) ?_ _
      go_wp2_with fail
      go_meet
      case rel => exact Lib.hid (HD.out.eq (swD_3 z A m cL))
    · as_aux_lemma =>
      clear hk hq
      have f15 : (z 4 == 15) = false := by rw [hk4]; rfl
      have f16 : (z 4 == 16) = false := by rw [hk4]; rfl
      have f17 : (z 4 == 17) = false := by rw [hk4]; rfl
      have f18 : (z 4 == 18) = false := by rw [hk4]; rfl
      have f20 : (z 4 == 20) = false := by rw [hk4]; rfl
      have f24 : (z 4 == 24) = false := by rw [hk4]; rfl
      have f25 : (z 4 == 25) = true := by rw [hk4]; rfl
      clear hk4
      have hHn : 33 ≤ n := by have : hdN 3 = 33 := rfl; omega
      clear hhq hh h17
      go_wp2_with fail
      have HDd := Lib.hid (HD.out.below (bself wq).drew)
      refine wp_region_held_drew (S := fun w' => Row8 w' b off n z) (by kernel_rfl) HDd.out.2.2.1 (fun hS => ?_)
      generalize hWq : wq.drew = Wq at hS HDd ⊢
      clear hWq HD
      have HD := HDd
      clear HDd
      refine tY (i := 0) (some 113) (v := .slice (some ⟨b, off, none⟩) n c) rfl rfl (fun w' hS => by go_simp) hS ?_
      simp only [Act.put, pA, pB, pC]
      refine tY (i := 1) (some 114) (v := .slice (some ⟨b, off + 10, none⟩) (n - 10) (c - 10)) rfl rfl (fun w' hS => by exact slice_in _ _ _ (.tmp 113) b off n c 10 10 rfl rfl rfl rfl (by omega) hc (by omega)) hS ?_
      simp only [Act.put, pA, pB, pC]
      refine tY (i := 3) (some 116) (v := .slice (some ⟨b, off, none⟩) n c) rfl rfl (fun w' hS => by go_simp) hS ?_
      simp only [Act.put, pA, pB, pC]
      refine tY (i := 4) (some 117) (v := .slice (some ⟨b, off + 17, none⟩) (n - 17) (c - 17)) rfl rfl (fun w' hS => by exact slice_in _ _ _ (.tmp 116) b off n c 17 17 rfl rfl rfl rfl (by omega) hc (by omega)) hS ?_
      simp only [Act.put, pA, pB, pC]
      refine tY (i := 6) (some 119) (v := .slice (some ⟨b, off, none⟩) n c) rfl rfl (fun w' hS => by go_simp) hS ?_
      simp only [Act.put, pA, pB, pC]
      refine tY (i := 7) (some 120) (v := .slice (some ⟨b, off + 25, none⟩) (n - 25) (c - 25)) rfl rfl (fun w' hS => by exact slice_in _ _ _ (.tmp 119) b off n c 25 25 rfl rfl rfl rfl (by omega) hc (by omega)) hS ?_
      simp only [Act.put, pA, pB, pC]
      refine takeC (i := 2) (some 115) 71 #[.slice (some ⟨b, off + 10, none⟩) (n - 10) (c - 10)] (.agg (ndC (fun j => z (10 + j)))) (R := fun w' => Below Wq.heap.size Wq w') rfl rfl (by kernel_rfl) (by rfl) (by go_simp) (nodeAt_any b (off + 10) (n - 10) (c - 10) (fun j => z (10 + j)) Wq (hS.shift 10 _ (by omega)) (by omega) (by omega)) (fun w' hb => row_keep hS (hb.block _ hS.1)) (fun Wn hb1 hS2 => ?_)
      simp only [Act.put, pA, pB, pC]
      have HDn := Lib.hid (HD.out.below hb1)
      clear HD hS hb1
      have HD := HDn
      have hS := hS2
      clear HDn hS2
      revert hS HD
      generalize Wn = Wq
      intro HD hS
      refine tY (i := 9) (some 122) (v := .pointer (some ⟨P, 2, none⟩)) rfl rfl (fun w' hS => by go_simp) hS ?_
      simp only [Act.put, pA, pB, pC]
      refine takeC (i := 5) (some 118) 72 #[.slice (some ⟨b, off + 17, none⟩) (n - 17) (c - 17)] (.agg (idC (fun j => z (17 + j)))) (R := fun w' => Below Wq.heap.size Wq w') rfl rfl (by kernel_rfl) (by rfl) (by go_simp) (idAt_any b (off + 17) (n - 17) (c - 17) (fun j => z (17 + j)) Wq (hS.shift 17 _ (by omega)) (by omega) (by omega)) (fun w' hb => row_keep hS (hb.block _ hS.1)) (fun Wn hb1 hS2 => ?_)
      simp only [Act.put, pA, pB, pC]
      have HDn := Lib.hid (HD.out.below hb1)
      clear HD hS hb1
      have HD := HDn
      have hS := hS2
      clear HDn hS2
      revert hS HD
      generalize Wn = Wq
      intro HD hS
      refine takeC (i := 8) (some 121) 72 #[.slice (some ⟨b, off + 25, none⟩) (n - 25) (c - 25)] (.agg (idC (fun j => z (25 + j)))) (R := fun w' => Below Wq.heap.size Wq w') rfl rfl (by kernel_rfl) (by rfl) (by go_simp) (idAt_any b (off + 25) (n - 25) (c - 25) (fun j => z (25 + j)) Wq (hS.shift 25 _ (by omega)) (by omega) (by omega)) (fun w' hb => row_keep hS (hb.block _ hS.1)) (fun Wn hb1 hS2 => ?_)
      simp only [Act.put, pA, pB, pC]
      have HDn := Lib.hid (HD.out.below hb1)
      clear HD hS hb1
      have HD := HDn
      have hS := hS2
      clear HDn hS2
      revert hS HD
      generalize Wn = Wq
      intro HD hS
      refine takeSt (i := 10) 33 (.tmp 122) (.tmp 115) P 2 (.agg (ndC (fun j => z (10 + j)))) (ndC (fun j => z (10 + j))) (pdC (drSet_so (withT (kdP (z 4)) A m cL) ((fun j => z (10 + j))))) rfl rfl (by kernel_rfl) (by rfl) rfl rfl rfl rfl info_node (nd_all _) HD.out.1 (Nat.le_of_ble_eq_true rfl) (drPut_so _ _) (fun Wn q1 => ⟨row_keep hS (q1.2.2 _ (by have := HD.out.2.2.2.2.2; omega)), ?_⟩)
      simp only [Act.put, pA, pB, pC]
      have hSn := row_keep hS (q1.2.2 _ (by have := HD.out.2.2.2.2.2; omega))
      have HDn := Lib.hid (HD.out.put (y := (drSet_so (withT (kdP (z 4)) A m cL) ((fun j => z (10 + j))))) q1)
      clear HD hS q1
      have HD := HDn
      have hS := hSn
      clear HDn hSn
      revert hS HD
      generalize Wn = Wq
      intro HD hS
      refine tY (i := 11) (some 123) (v := .pointer (some ⟨P, 30, none⟩)) rfl rfl (fun w' hS => by go_simp) hS ?_
      simp only [Act.put, pA, pB, pC]
      refine takeSt (i := 12) 35 (.tmp 123) (.tmp 118) P 30 (.agg (idC (fun j => z (17 + j)))) (idC (fun j => z (17 + j))) (pdC (drSet_st (drSet_so (withT (kdP (z 4)) A m cL) ((fun j => z (10 + j)))) ((fun j => z (17 + j))))) rfl rfl (by kernel_rfl) (by rfl) rfl rfl rfl rfl info_id (id_all _) HD.out.1 (Nat.le_of_ble_eq_true rfl) (drPut_st _ _) (fun Wn q1 => ⟨row_keep hS (q1.2.2 _ (by have := HD.out.2.2.2.2.2; omega)), ?_⟩)
      simp only [Act.put, pA, pB, pC]
      have hSn := row_keep hS (q1.2.2 _ (by have := HD.out.2.2.2.2.2; omega))
      have HDn := Lib.hid (HD.out.put (y := (drSet_st (drSet_so (withT (kdP (z 4)) A m cL) ((fun j => z (10 + j)))) ((fun j => z (17 + j))))) q1)
      clear HD hS q1
      have HD := HDn
      have hS := hSn
      clear HDn hSn
      revert hS HD
      generalize Wn = Wq
      intro HD hS
      refine tY (i := 13) (some 124) (v := .pointer (some ⟨P, 38, none⟩)) rfl rfl (fun w' hS => by go_simp) hS ?_
      simp only [Act.put, pA, pB, pC]
      refine takeSt (i := 14) 35 (.tmp 124) (.tmp 121) P 38 (.agg (idC (fun j => z (25 + j)))) (idC (fun j => z (25 + j))) (pdC (drSet_en (drSet_st (drSet_so (withT (kdP (z 4)) A m cL) ((fun j => z (10 + j)))) ((fun j => z (17 + j)))) ((fun j => z (25 + j))))) rfl rfl (by kernel_rfl) (by rfl) rfl rfl rfl rfl info_id (id_all _) HD.out.1 (Nat.le_of_ble_eq_true rfl) (drPut_en _ _) (fun Wn q1 => ⟨row_keep hS (q1.2.2 _ (by have := HD.out.2.2.2.2.2; omega)), ?_⟩)
      simp only [Act.put, pA, pB, pC]
      have hSn := row_keep hS (q1.2.2 _ (by have := HD.out.2.2.2.2.2; omega))
      have HDn := Lib.hid (HD.out.put (y := (drSet_en (drSet_st (drSet_so (withT (kdP (z 4)) A m cL) ((fun j => z (10 + j)))) ((fun j => z (17 + j)))) ((fun j => z (25 + j))))) q1)
      clear HD hS q1
      have HD := HDn
      have hS := hSn
      clear HDn hSn
      revert hS HD
      generalize Wn = Wq
      intro HD hS
      clear hS
      refine wpAnyH_done (by kernel_rfl) ?_ _
      go_wp2_with fail
      go_meet
      case rel => exact Lib.hid (HD.out.eq (swD_3 z A m cL))
    · as_aux_lemma =>
      clear hk hq
      have f15 : (z 4 == 15) = false := by rw [hk4]; rfl
      have f16 : (z 4 == 16) = false := by rw [hk4]; rfl
      have f17 : (z 4 == 17) = false := by rw [hk4]; rfl
      have f18 : (z 4 == 18) = false := by rw [hk4]; rfl
      have f20 : (z 4 == 20) = false := by rw [hk4]; rfl
      have f24 : (z 4 == 24) = false := by rw [hk4]; rfl
      have f25 : (z 4 == 25) = false := by rw [hk4]; rfl
      clear hk4
      have hHn : 17 ≤ n := by have : hdN 4 = 17 := rfl; omega
      clear hhq hh h17
      skip
      have hRW := HD.out.2.2.1
      go_wp2_with (refine wpList_v (op := ⟨some 54, _, _, _, _, _⟩) rfl _ (slice_in _ _ _ (.tmp 53) b off n c 10 10 rfl rfl rfl rfl (by omega) hc (by omega)) ?_)
      refine (nodeAt_any b (off + 10) (n - 10) (c - 10) (fun j => z (10 + j)) wq (hRW.shift 10 _ (by omega)) (by omega) (by omega)).mono ?_
      rintro e w6 ⟨rfl, hb⟩
      have HD6 := Lib.hid (HD.out.below hb)
      clear HD hb hRW
      go_wp2_with (refine wpList_st rfl 33 (.tmp 56) (.tmp 55) rfl P 2 rfl (.agg (ndC (fun j => z (10 + j)))) (ndC (fun j => z (10 + j))) rfl rfl info_node (nd_all _) HD6.out.1 (Nat.le_of_ble_eq_true rfl) (C' := pdC (drSet_so (withT (kdP (z 4)) A m cL) (fun j => z (10 + j)))) (by kernel_rfl) ?_; intro w7 hst7; refine Hid.out ?_)
      refine Lib.hid ?_
      have HD := Lib.hid (HD6.out.put (y := (drSet_so (withT (kdP (z 4)) A m cL) (fun j => z (10 + j)))) hst7)
      clear hst7 HD6
      go_wp2_with fail
      go_meet
      case rel => exact Lib.hid (HD.out.eq (swD_4 z A m cL))
    · as_aux_lemma =>
      clear hk hq
      have f15 : (z 4 == 15) = false := by rw [hk4]; rfl
      have f16 : (z 4 == 16) = false := by rw [hk4]; rfl
      have f17 : (z 4 == 17) = false := by rw [hk4]; rfl
      have f18 : (z 4 == 18) = false := by rw [hk4]; rfl
      have f20 : (z 4 == 20) = false := by rw [hk4]; rfl
      have f24 : (z 4 == 24) = false := by rw [hk4]; rfl
      have f25 : (z 4 == 25) = false := by rw [hk4]; rfl
      clear hk4
      have hHn : 17 ≤ n := by have : hdN 4 = 17 := rfl; omega
      clear hhq hh h17
      skip
      have hRW := HD.out.2.2.1
      go_wp2_with (refine wpList_v (op := ⟨some 54, _, _, _, _, _⟩) rfl _ (slice_in _ _ _ (.tmp 53) b off n c 10 10 rfl rfl rfl rfl (by omega) hc (by omega)) ?_)
      refine (nodeAt_any b (off + 10) (n - 10) (c - 10) (fun j => z (10 + j)) wq (hRW.shift 10 _ (by omega)) (by omega) (by omega)).mono ?_
      rintro e w6 ⟨rfl, hb⟩
      have HD6 := Lib.hid (HD.out.below hb)
      clear HD hb hRW
      go_wp2_with (refine wpList_st rfl 33 (.tmp 56) (.tmp 55) rfl P 2 rfl (.agg (ndC (fun j => z (10 + j)))) (ndC (fun j => z (10 + j))) rfl rfl info_node (nd_all _) HD6.out.1 (Nat.le_of_ble_eq_true rfl) (C' := pdC (drSet_so (withT (kdP (z 4)) A m cL) (fun j => z (10 + j)))) (by kernel_rfl) ?_; intro w7 hst7; refine Hid.out ?_)
      refine Lib.hid ?_
      have HD := Lib.hid (HD6.out.put (y := (drSet_so (withT (kdP (z 4)) A m cL) (fun j => z (10 + j)))) hst7)
      clear hst7 HD6
      go_wp2_with fail
      go_meet
      case rel => exact Lib.hid (HD.out.eq (swD_4 z A m cL))
  case rest =>
  clear HD c0
  have HD := hcut
  clear hcut
  have c0 : wc.cell? ⟨P, 0, none⟩ = some (.int .u8 (z 4)) := (HD.out.1.cell 0).trans (by rw [pdC_0, swP_kd])
  have HHE := Lib.hid (hello_q (z 4) q HKQ.out.1 HKQ.out.2)
  obtain ⟨bh, hbh⟩ : ∃ bh, decide (q ≤ 1) = bh := ⟨_, rfl⟩
  rw [hbh] at HHE
  have HBH := Lib.hid hbh
  clear hbh
  go_wp2_with fail
  refine (HHE.out _).mono ?_
  rintro e wx ⟨rfl, rfl⟩
  go_upto_if 127 with fail
  go_cut [] (fun wd => Hid (DrS w P X b off n z B A m cL L (withT (rdP q z) A m cL) wd))
  case first =>
    clear c0 HH HM HI HPS HAN fl1 fl8 fl9 fH f30 HHE
    cases bh with
    | true =>
      have hq1 : q ≤ 1 := of_decide_eq_true HBH.out
      have hhq := HHQ.out
      have hRW := HD.out.2.2.1
      have hHn : 20 ≤ n := by
        rcases (by omega : q = 0 ∨ q = 1) with rfl | rfl
        · have : hdN 0 = 20 := rfl
          omega
        · have : hdN 1 = 27 := rfl
          omega
      clear hhq hh h17 HHQ HKQ HBH
      go_wp2_with (refine wpList_v (op := ⟨some 129, _, _, _, _, _⟩) rfl _ (slice_in _ _ _ (.tmp 128) b off n c 9 9 rfl rfl rfl rfl (by omega) hc (by omega)) ?_)
      refine (nodeAt_any b (off + 9) (n - 9) (c - 9) (fun j => z (9 + j)) wc (hRW.shift 9 _ (by omega)) (by omega) (by omega)).mono ?_
      rintro e w6 ⟨rfl, hb⟩
      have HD6 := Lib.hid (HD.out.below hb)
      clear HD hb hRW
      go_wp2_with (refine wpList_st rfl 33 (.tmp 131) (.tmp 130) rfl P 2 rfl (.agg (ndC (fun j => z (9 + j)))) (ndC (fun j => z (9 + j))) rfl rfl info_node (nd_all _) HD6.out.1 (Nat.le_of_ble_eq_true rfl) (C' := pdC (setSo (swP q z A m cL) (fun j => z (9 + j)))) (by kernel_rfl) ?_; intro w7 hst7; refine Hid.out ?_)
      refine Lib.hid ?_
      have HD7 := Lib.hid (HD6.out.put (y := setSo (swP q z A m cL) (fun j => z (9 + j))) hst7)
      clear hst7 HD6
      go_wp2_with (refine wpList_st rfl 5 (.tmp 133) (.const (.int .u8 0)) rfl P 8 rfl (.int .u8 0) #[.int .u8 0] rfl rfl (by kernel_rfl) (by kernel_rfl) HD7.out.1 (Nat.le_of_ble_eq_true rfl) (C' := pdC (setSo (swP q z A m cL) (cutSys (fun j => z (9 + j))))) (by kernel_rfl) ?_; intro w8 hst8; refine Hid.out ?_)
      refine Lib.hid ?_
      have HD8 := Lib.hid (HD7.out.put (y := setSo (swP q z A m cL) (cutSys (fun j => z (9 + j)))) hst8)
      clear hst8 HD7
      go_wp2_with fail
      go_meet
      case rel => exact Lib.hid (HD8.out.eq (by rcases (by omega : q = 0 ∨ q = 1) with rfl | rfl <;> kernel_rfl))
    | false =>
      have hq1 : ¬ q ≤ 1 := of_decide_eq_false HBH.out
      clear HBH
      go_wp2_with fail
      go_meet
      case rel => exact Lib.hid (HD.out.eq (by unfold swP; rw [if_neg (by omega), if_neg (by omega)]))
  case rest =>
  clear HD c0 HHE HBH
  have HD := hcut
  clear hcut
  obtain ⟨x, hx⟩ : ∃ x, withT (rdP q z) A m cL = x := ⟨_, rfl⟩
  rw [hx] at HD
  have hxk : x.kd = z 4 := by rw [← hx]; exact rdP_kd q z
  have hxok : PdOk x := by rw [← hx]; exact rdP_ok q HKQ.out.2 z HD.out.2.2.1.2.2
  have hxf : fitP x q = fitP (rdP q z) q := by rw [← hx]; exact fit_withT _ _ _ _ _
  have hxm : x.A = A ∧ x.m = m ∧ x.c = cL := by rw [← hx]; exact ⟨rfl, rfl, rfl⟩
  have HX := Lib.hid hx
  have HXK := Lib.hid hxk
  have HXO := Lib.hid hxok
  have HXM := Lib.hid hxm
  clear hx hxk hxok hxm
  have HF := refFields_any x q (by rw [HXK.out]; exact HKQ.out.1) HKQ.out.2 HXO.out
  obtain ⟨r, hr⟩ : ∃ r, fitP (rdP q z) q = r := ⟨_, rfl⟩
  rw [hr] at hxf
  rw [hxf] at HF
  have HF := Lib.hid HF
  have HRR := Lib.hid hr
  have HXF := Lib.hid hxf
  clear hr hxf
  go_wp2_with (refine wpList_ldr (op := ⟨some 134, _, _, _, _, _⟩) (by rfl) 39 (.tmp 4) rfl P 0 rfl (pdC x) _ (PdT.all (t := 39) (p := x) HD.out.1) Tryz.underlying39 rfl info_pdR ?_; refine Hid.out ?_)
  refine Lib.hid ?_
  go_wp2_with fail
  refine (HF.out _).mono ?_
  rintro e wf ⟨rfl, hb⟩
  have HDn := Lib.hid (HD.out.below hb)
  clear HD hb HF
  have HD := HDn
  clear HDn
  cases r with
  | false =>
    have HX4 := Lib.hid HD.out.2.1
    have HB4 := Lib.hid HD.out.2.2.2.1
    go_wp2_with (first
      | (refine wpList_v (op := ⟨some 137, _, _, _, _, _⟩) rfl _ (build_0d _ _ rfl _) ?_)
      | (refine wpList_st rfl 39 (.tmp 2) (.tmp 137) rfl X 0 rfl (.agg (pdC pd0)) (pdC pd0) rfl rfl info_pdR (pdC_one _) HX4.out (Nat.le_of_ble_eq_true rfl) (pd_all _ _) ?_; intro w2 hst2; refine Hid.out ?_))
    refine Lib.hid ?_
    have HX2 : Hid (PdT 39 w2 X pd0) := Lib.hid hst2.1
    have HB2 : Hid (Below w.heap.size w w2) := Lib.hid (HB4.out.trans (hst2.2.1 _ hXle))
    clear hst2
    go_wp2_with fail
    refine bodyPost_ret (results_dr rfl _ w2 X pd0 (.int .i64 3) rfl HX2.out rfl) rfl (.inl ⟨fun h => Bool.noConfusion (HRR.out.symm.trans h.2.1), rfl, HB2.out⟩)
  | true =>
    have hsz : sz L m = n - H := (sz_it HI.out m (Nat.le_refl _)).trans HPS.out
    have hbad := good_it (z := tlZ q z) (fun j => HD.out.2.2.1.2.2 _) HI.out (by rw [HPS.out]; omega)
    have HW := Lib.hid (fun W (hin : PdIn W x L) => refWrite_any x q (by rw [HXK.out]; exact HKQ.out.1) HKQ.out.2 HXO.out HXF.out L (by rw [HXM.out.2.1]; exact hbad) (by rw [HXM.out.2.1, hsz, HHQ.out]; omega) W hin)
    rw [HXM.out.2.1, hsz, HHQ.out, show H + (n - H) = n by omega] at HW
    have HBI := Lib.hid (back_iff q HKQ.out.2 z n m L A cL HKQ.out.1 h8 (by rw [HHQ.out]; exact hh) hn2 HD.out.2.2.1.2.2 HI.out (by rw [HHQ.out]; exact HPS.out))
    have HAI := Lib.hid (fun (h2 : q = 2) => all_iff x L n (by subst h2; have : hdN 2 = 27 := rfl; have := HHQ.out; omega) (by rw [HXM.out.2.1, hsz]; subst h2; have := HHQ.out; omega) z)
    rw [HX.out] at HBI
    obtain ⟨y, hy⟩ : ∃ y, pdZ x q L = y := ⟨_, rfl⟩
    rw [hy] at HW HBI
    have HY := Lib.hid hy
    clear hsz hbad hy
    go_wp2_with (refine wpList_ldr (op := ⟨some 138, _, _, _, _, _⟩) (by rfl) 39 (.tmp 4) rfl P 0 rfl (pdC x) _ (PdT.all (t := 39) (p := x) HD.out.1) Tryz.underlying39 rfl info_pdR ?_; refine Hid.out ?_)
    refine Lib.hid ?_
    go_wp2_with fail
    refine (HW.out _ (by
      have hoT := HD.out.2.2.2.2.1
      obtain ⟨A9, c9, e9, h1, h2, _, h4⟩ := hoT.shape
      cases e9
      exact ⟨by rw [HXM.out.1, HXM.out.2.1]; exact h4, by rw [HXM.out.2.1, HXM.out.2.2]; exact h1, by rw [HXM.out.2.2]; exact Nat.le_trans h2 (by decide)⟩)).mono ?_
    rintro e wg ⟨g1, c1, rfl, hg1, hO1, hb⟩
    have HDn := Lib.hid (HD.out.below hb)
    have HO1 := Lib.hid hO1
    have hsg := hb.size
    clear HD hb HW hO1
    have HD := HDn
    clear HDn
    go_wp2_with fail
    refine (twin_any (some ⟨b, off, none⟩) n c z wg ⟨.inr ⟨b, off, rfl, HD.out.2.2.1⟩, HD.out.2.2.1.2.2⟩ (fun h => by cases h) (by omega)).mono ?_
    rintro e wh ⟨g2, c2, rfl, hg2, hO2, hb⟩
    have HDn := Lib.hid (HD.out.below hb)
    have HO1n := Lib.hid (HO1.out.below hb HO1.out.lt)
    have HO2 := Lib.hid hO2
    have hg12 : g1 ≠ g2 := by have := HO1.out.lt; omega
    have hPg : P ≠ g2 ∧ b ≠ g2 ∧ X ≠ g2 := by have := HD.out.1.lt; have := HD.out.2.2.2.2.2; omega
    have hwg2 : w.heap.size ≤ g2 := by have := HD.out.2.2.2.1.size; omega
    have HDg := HD
    have HO1g := HO1
    have HBg := Lib.hid hb
    clear HD HO1 hb hO2
    have HD := HDn
    have HO1 := HO1n
    clear HDn HO1n
    have c0 : wh.cell? ⟨P, 0, none⟩ = some (.int .u8 (z 4)) := (HD.out.1.cell 0).trans (by rw [pdC_0, HXK.out])
    have HLE := Lib.hid (lsp_q (z 4) q HKQ.out.1 HKQ.out.2)
    obtain ⟨bl, hbl⟩ : ∃ bl, decide (q = 2) = bl := ⟨_, rfl⟩
    rw [hbl] at HLE
    have HBL := Lib.hid hbl
    clear hbl
    go_wp2_with fail
    refine (HLE.out _).mono ?_
    rintro e wx ⟨rfl, rfl⟩
    go_upto_if 144 with fail
    go_cut [] (fun wi => ∃ yz, Hid (∀ j, j < n → (q = 2 → j ≠ 24 ∧ j ≠ 25) → yz j = z j) ∧ Hid (q = 2 → yz 24 = y 24 ∧ yz 25 = y 25) ∧ Hid (Rd wi (some ⟨g1, 0, none⟩) n y) ∧ Hid (Rd wi (some ⟨g2, 0, none⟩) n yz) ∧ Hid (DrS w P X b off n z B A m cL L x wi))
    case first =>
      cases bl with
      | true =>
        have hq2 : q = 2 := of_decide_eq_true HBL.out
        have hHn : 27 ≤ n := by
          have := HHQ.out
          subst hq2
          have : hdN 2 = 27 := rfl
          omega
        have yb := HO1.out.2
        have c24 := own_at HO1.out 24 (by omega)
        have c25 := own_at HO1.out 25 (by omega)
        have d24 := own_at HO2.out 24 (by omega)
        have d25 := own_at HO2.out 25 (by omega)
        have f2 := Own8.free HO2.out
        clear HH HM HI HPS HAN fl1 fl8 fl9 fH f30 HLE HBL HBI HAI c0
        go_upto_region 31 with fail
        go_region
        all_goals (go_wp2_with fail)
        all_goals go_meet
        case rel =>
          obtain ⟨yz, l1, l2, l3, l4, l5⟩ := lay_two q HDg.out HO1g.out HBg.out HO2.out hg2 hHn
          exact ⟨yz, Lib.hid fun j hj hc2 => l1.out j hj hc2 hq2, l2, l3, l4, l5⟩
      | false =>
        have hq2 : ¬ q = 2 := of_decide_eq_false HBL.out
        clear HBL
        go_wp2_with fail
        go_meet
        case rel => exact ⟨z, Lib.hid fun _ _ _ => rfl, Lib.hid fun h => absurd h hq2, Lib.hid HO1.out.rd, Lib.hid HO2.out.rd, HD⟩
    case rest =>
    clear HD c0 HLE HBL HO1 HO2 HDg HO1g HBg
    obtain ⟨yz, HYZ, HYC, HR1, HR2, HDi⟩ := hcut
    have HP := Lib.hid HDi.out.1
    have HX0 := Lib.hid HDi.out.2.1
    have HRW := Lib.hid HDi.out.2.2.1
    have HB := Lib.hid HDi.out.2.2.2.1
    have HOT := Lib.hid HDi.out.2.2.2.2.1
    have hPB := HDi.out.2.2.2.2.2
    clear HDi
    go_wp2_with fail
    by_cases hE : FormOk z n
    · have hE1 := HBI.out.2 hE
      have hsame : ∀ j, j < n → y j = yz j := fun j hj => by
        by_cases hc2 : q = 2 → j ≠ 24 ∧ j ≠ 25
        · rw [hE1 j hj hc2, HYZ.out j hj hc2]
        · have hq2 : q = 2 := Classical.byContradiction fun h => hc2 fun h' => absurd h' h
          obtain ⟨e1, e2⟩ := HYC.out hq2
          by_cases h24 : j = 24
          · rw [h24, e1]
          · by_cases h25 : j = 25
            · rw [h25, e2]
            · exact absurd (fun _ => ⟨h24, h25⟩) hc2
      refine (same_yes (some ⟨g1, 0, none⟩) (some ⟨g2, 0, none⟩) n c1 c2 y yz _ HR1.out HR2.out hsame (by omega)).mono ?_
      rintro e wj ⟨rfl, k1, rfl⟩
      have hbd := below_drewN wc k1
      have HPn := Lib.hid (HP.out.below hbd HP.out.lt)
      have HX0n := Lib.hid (HX0.out.below hbd HX0.out.lt)
      have HRWn := Lib.hid (row_keep HRW.out (hbd.block _ HRW.out.1))
      have HBn := Lib.hid (HB.out.trans (hbd.mono HB.out.size))
      have HOTn := Lib.hid (HOT.out.below hbd)
      have HR1n := Lib.hid (HR1.out.below hbd rfl)
      obtain ⟨wj, hwj⟩ : ∃ wj, wc.drewN k1 = wj := ⟨_, rfl⟩
      rw [hwj] at HPn HX0n HRWn HBn HOTn HR1n ⊢
      clear hwj hbd HP HX0 HRW HB HOT HR1 HR2 hsame
      go_wp2_with fail
      have hall : (∀ j, j < n → y j = z j) ↔ (q = 2 → rightB (fun j => z (12 + j)) 12 (n - 12) = true) := by
        by_cases hq2 : q = 2
        · have h1 := HAI.out hq2 (fun j hj hne => by rw [← hq2, HY.out]; exact hE1 j hj (fun _ => hne))
          rw [← hq2, HY.out] at h1
          rw [h1]
          exact ⟨fun h _ => h, fun h => h hq2⟩
        · exact ⟨fun _ h => absurd h hq2, fun _ j hj => hE1 j hj (fun h => absurd h hq2)⟩
      have hOk : DrOk q z n m := ⟨by rw [HHQ.out]; exact HPS.out, HRR.out, hE⟩
      by_cases hS : ∀ j, j < n → y j = z j
      · refine (same_yes (some ⟨g1, 0, none⟩) (some ⟨b, off, none⟩) n c1 c y z _ HR1n.out ⟨.inr ⟨b, off, rfl, HRWn.out⟩, HRWn.out.2.2⟩ hS (by omega)).mono ?_
        rintro e wk ⟨rfl, k2, rfl⟩
        have hbd := below_drewN wj k2
        have HPm := Lib.hid (HPn.out.below hbd HPn.out.lt)
        have HX0m := Lib.hid (HX0n.out.below hbd HX0n.out.lt)
        have HBm := Lib.hid (HBn.out.trans (hbd.mono HBn.out.size))
        have HOTm := Lib.hid (HOTn.out.below hbd)
        obtain ⟨wk, hwk⟩ : ∃ wk, wj.drewN k2 = wk := ⟨_, rfl⟩
        rw [hwk] at HPm HX0m HBm HOTm ⊢
        have hR := hall.1 hS
        clear hwk hbd HPn HX0n HRWn HBn HOTn HR1n
        go_wp2_with (first
          | (refine wpList_ldr (op := ⟨some 165, _, _, _, _, _⟩) (by rfl) 39 (.tmp 4) rfl P 0 rfl (pdC x) _ (PdT.all (t := 39) (p := x) HPm.out) Tryz.underlying39 rfl info_pdR ?_)
          | (refine wpList_st rfl 39 (.tmp 2) (.tmp 165) rfl X 0 rfl (.agg (pdC x)) (pdC x) rfl rfl info_pdR (pdC_one _) HX0m.out (Nat.le_of_ble_eq_true rfl) (pd_all _ _) ?_; intro wl hstl; refine Hid.out ?_))
        refine Lib.hid ?_
        have HXl : Hid (PdT 39 wl X x) := Lib.hid hstl.1
        have HBl : Hid (Below w.heap.size w wl) := Lib.hid (HBm.out.trans (hstl.2.1 _ hXle))
        have HOTl : Hid (OwnT wl B (.slice A m cL) m L) := Lib.hid (HOTm.out.far hstl (by omega))
        clear hstl
        go_wp2_with fail
        refine bodyPost_ret (results_dr rfl _ wl X x (.int .i64 0) rfl HXl.out rfl) rfl (.inr (.inr ⟨hOk, hR, A, cL, L, by rw [HX.out], ownT_mono HOTl.out HWB, HI.out, HAN.out.1, HAN.out.2.1, HAN.out.2.2, HBl.out⟩))
      · refine (same_no (some ⟨g1, 0, none⟩) (some ⟨b, off, none⟩) n n c1 c y z _ HR1n.out ⟨.inr ⟨b, off, rfl, HRWn.out⟩, HRWn.out.2.2⟩ (fun h => hS h.2) (by omega) (by omega)).mono ?_
        rintro e wk ⟨rfl, k2, rfl⟩
        have hbd := below_drewN wj k2
        have HX4 := Lib.hid (HX0n.out.below hbd HX0n.out.lt)
        have HB4 := Lib.hid (HBn.out.trans (hbd.mono HBn.out.size))
        obtain ⟨wk, hwk⟩ : ∃ wk, wj.drewN k2 = wk := ⟨_, rfl⟩
        rw [hwk] at HX4 HB4 ⊢
        have hNR : q = 2 ∧ rightB (fun j => z (12 + j)) 12 (n - 12) = false := by
          have h1 : ¬ (q = 2 → rightB (fun j => z (12 + j)) 12 (n - 12) = true) := fun h => hS (hall.2 h)
          refine ⟨Classical.byContradiction fun h => h1 fun h' => absurd h' h, ?_⟩
          cases hb : rightB (fun j => z (12 + j)) 12 (n - 12)
          · rfl
          · exact absurd (fun _ => hb) h1
        clear hwk hbd HPn HX0n HRWn HBn HOTn HR1n
        go_wp2_with (first
          | (refine wpList_v (op := ⟨some 164, _, _, _, _, _⟩) rfl _ (build_0d _ _ rfl _) ?_)
          | (refine wpList_st rfl 39 (.tmp 2) (.tmp 164) rfl X 0 rfl (.agg (pdC pd0)) (pdC pd0) rfl rfl info_pdR (pdC_one _) HX4.out (Nat.le_of_ble_eq_true rfl) (pd_all _ _) ?_; intro w2 hst2; refine Hid.out ?_))
        refine Lib.hid ?_
        have HX2 : Hid (PdT 39 w2 X pd0) := Lib.hid hst2.1
        have HB2 : Hid (Below w.heap.size w w2) := Lib.hid (HB4.out.trans (hst2.2.1 _ hXle))
        clear hst2
        go_wp2_with fail
        refine bodyPost_ret (results_dr rfl _ w2 X pd0 (.int .i64 8) rfl HX2.out rfl) rfl (.inr (.inl ⟨hOk, hNR.1, hNR.2, rfl, HB2.out⟩))
    · have hdiff : ¬ (n = n ∧ ∀ j, j < n → y j = yz j) := fun h => hE (HBI.out.1 fun j hj hc2 => by rw [h.2 j hj, HYZ.out j hj hc2])
      refine (same_no (some ⟨g1, 0, none⟩) (some ⟨g2, 0, none⟩) n n c1 c2 y yz _ HR1.out HR2.out hdiff (by omega) (by omega)).mono ?_
      rintro e wj ⟨rfl, k1, rfl⟩
      have hbd := below_drewN wc k1
      have HX4 := Lib.hid (HX0.out.below hbd HX0.out.lt)
      have HB4 := Lib.hid (HB.out.trans (hbd.mono HB.out.size))
      obtain ⟨wj, hwj⟩ : ∃ wj, wc.drewN k1 = wj := ⟨_, rfl⟩
      rw [hwj] at HX4 HB4 ⊢
      clear hwj hbd HP HX0 HRW HB HOT HR1 HR2
      go_wp2_with (first
        | (refine wpList_v (op := ⟨some 159, _, _, _, _, _⟩) rfl _ (build_0d _ _ rfl _) ?_)
        | (refine wpList_st rfl 39 (.tmp 2) (.tmp 159) rfl X 0 rfl (.agg (pdC pd0)) (pdC pd0) rfl rfl info_pdR (pdC_one _) HX4.out (Nat.le_of_ble_eq_true rfl) (pd_all _ _) ?_; intro w2 hst2; refine Hid.out ?_))
      refine Lib.hid ?_
      have HX2 : Hid (PdT 39 w2 X pd0) := Lib.hid hst2.1
      have HB2 : Hid (Below w.heap.size w w2) := Lib.hid (HB4.out.trans (hst2.2.1 _ hXle))
      clear hst2
      go_wp2_with fail
      refine bodyPost_ret (results_dr rfl _ w2 X pd0 (.int .i64 3) rfl HX2.out rfl) rfl (.inl ⟨fun h => hE h.2.2, rfl, HB2.out⟩)
end Go.Proofs.YtkiaijmhoikdiaaGreat

/- Read and the document's DocRead answer alike. Each theorem states its conditions. -/
namespace Go.Proofs.YtkiaijmhoikdiaaGreat
open Go.RowKit
set_option linter.unusedVariables false

def BothNo (n : Nat) (z : Nat → Int) (E : Int) : Prop :=
  (∀ (A : Option Addr) (c : Nat) (w : World), Rd w A n z → n ≤ c → c ≤ maxLen → Calls Tryz.prog 68 #[.slice A n c] w (RdErr w E)) ∧
  ∀ (A : Option Addr) (c : Nat) (w : World), Rd w A n z → n ≤ c → c ≤ maxLen → Calls Tryz.prog 47 #[.slice A n c] w (RdErr w E)
def BothYes (n : Nat) (z : Nat → Int) (m : Nat) : Prop :=
  (∀ (A : Option Addr) (c : Nat) (w : World), Rd w A n z → n ≤ c → c ≤ maxLen → Calls Tryz.prog 68 #[.slice A n c] w (RdOk w (cls (z 4)) z m)) ∧
  ∀ (A : Option Addr) (c : Nat) (w : World), Rd w A n z → n ≤ c → c ≤ maxLen → Calls Tryz.prog 47 #[.slice A n c] w (RdOk w (cls (z 4)) z m)
theorem drP_no {w : World} {q : Nat} {z : Nat → Int} {n m : Nat} {e : Ending} {w' : World} (h : DrP w q z n m e w') (hn : ¬ DrOk q z n m) : RdErr w 3 e w' := by
  rcases h with ⟨_, h⟩ | ⟨h, _⟩ | ⟨h, _⟩
  · exact h
  · exact absurd h hn
  · exact absurd h hn
theorem drP_sum {w : World} {q : Nat} {z : Nat → Int} {n m : Nat} {e : Ending} {w' : World} (h : DrP w q z n m e w') (hn : DrOk q z n m) (h2 : q = 2) (hr : rightB (fun j => z (12 + j)) 12 (n - 12) = false) : RdErr w 8 e w' := by
  rcases h with ⟨h, _⟩ | ⟨_, _, _, h⟩ | ⟨_, h, _⟩
  · exact absurd hn h
  · exact h
  · have := h h2
    rw [hr] at this
    cases this
theorem drP_yes {w : World} {q : Nat} {z : Nat → Int} {n m : Nat} {e : Ending} {w' : World} (h : DrP w q z n m e w') (hn : DrOk q z n m) (hr : q = 2 → rightB (fun j => z (12 + j)) 12 (n - 12) = true) : RdOk w q z m e w' := by
  rcases h with ⟨h, _⟩ | ⟨_, h2, h, _⟩ | ⟨_, _, h⟩
  · exact absurd hn h
  · have := hr h2
    rw [h] at this
    cases this
  · exact h
theorem both_rd (n : Nat) (z : Nat → Int) : (∃ E : Int, (E = 2 ∨ E = 3 ∨ E = 8) ∧ BothNo n z E) ∨ ∃ m, n ≤ 1492 ∧ GoodZ z n m ∧ BothYes n z m := by
  by_cases hl : 1492 < n
  · exact .inl ⟨2, .inl rfl, fun A c w hr hc hcm => rd_long A n c w hl, fun A c w hr hc hcm => dr_long A n c w hl⟩
  have hn2 : n ≤ 1492 := by omega
  by_cases hf : FormOk z n
  · obtain ⟨h8, hq, hh, h1, h2⟩ := hf
    obtain ⟨m, hm1, hm2⟩ := pos_cases (tlZ (cls (z 4)) z) (n - hdN (cls (z 4)))
    have hE : Ends (tlZ (cls (z 4)) z) (n - hdN (cls (z 4))) m := ⟨hm1, hm2⟩
    have hf : FormOk z n := ⟨h8, hq, hh, h1, h2⟩
    have hM : ∀ (b off c : Nat) (w : World), Row8 w b off n z → n ≤ c → c ≤ maxLen → Calls Tryz.prog 47 #[.slice (some ⟨b, off, none⟩) n c] w (DrP w (cls (z 4)) z n m) :=
      fun b off c w hr hc hcm => dr_main b off n c z w hr hc hcm hn2 h8 _ rfl hq hh m hE
    cases hft : fitP (rdP (cls (z 4)) z) (cls (z 4))
    · refine .inl ⟨3, .inr (.inl rfl), fun A c w hr hc hcm => ?_, fun A c w hr hc hcm => ?_⟩
      · obtain ⟨b, off, rfl, hr2⟩ := hr.row (by omega)
        refine rd_formW (some ⟨b, off, none⟩) n c z w hr hn2 fun W hbW => ?_
        refine (rf_good b off n c z W (hr2.below' hbW) hc hcm hn2 hf false hft).mono fun e w' h => ?_
        exact ⟨_, _, _, _, h.1, h.2⟩
      · obtain ⟨b, off, rfl, hr2⟩ := hr.row (by omega)
        exact (hM b off c w hr2 hc hcm).mono fun e w' h => drP_no h fun hk => Bool.noConfusion (hft.symm.trans hk.2.1)
    · by_cases hp : pos (tlZ (cls (z 4)) z) m = n - hdN (cls (z 4))
      · have hok : DrOk (cls (z 4)) z n m := ⟨hp, hft, hf⟩
        by_cases h22 : cls (z 4) = 2
        · cases hrb : rightB (fun j => z (12 + j)) 12 (n - 12)
          · refine .inl ⟨8, .inr (.inr rfl), fun A c w hr hc hcm => ?_, fun A c w hr hc hcm => ?_⟩
            · obtain ⟨b, off, rfl, hr2⟩ := hr.row (by omega)
              exact rd_sum b off n c z w hr2 hc hcm hn2 _ rfl hf hft m hE hp h22 hrb
            · obtain ⟨b, off, rfl, hr2⟩ := hr.row (by omega)
              exact (hM b off c w hr2 hc hcm).mono fun e w' h => drP_sum h hok h22 hrb
          · have hg : GoodZ z n m := ⟨hf, hft, hE, hp, fun _ => hrb⟩
            refine .inr ⟨m, hn2, hg, fun A c w hr hc hcm => read_good A n c z w hr hc hcm hn2 m hg, fun A c w hr hc hcm => ?_⟩
            obtain ⟨b, off, rfl, hr2⟩ := hr.row (by omega)
            exact (hM b off c w hr2 hc hcm).mono fun e w' h => drP_yes h hok fun _ => hrb
        · have hg : GoodZ z n m := ⟨hf, hft, hE, hp, fun h => absurd h h22⟩
          refine .inr ⟨m, hn2, hg, fun A c w hr hc hcm => read_good A n c z w hr hc hcm hn2 m hg, fun A c w hr hc hcm => ?_⟩
          obtain ⟨b, off, rfl, hr2⟩ := hr.row (by omega)
          exact (hM b off c w hr2 hc hcm).mono fun e w' h => drP_yes h hok fun h => absurd h h22
      · refine .inl ⟨3, .inr (.inl rfl), fun A c w hr hc hcm => ?_, fun A c w hr hc hcm => ?_⟩
        · obtain ⟨b, off, rfl, hr2⟩ := hr.row (by omega)
          exact rd_split b off n c z w hr2 hc hcm hn2 _ rfl hf hft m hE hp
        · obtain ⟨b, off, rfl, hr2⟩ := hr.row (by omega)
          exact (hM b off c w hr2 hc hcm).mono fun e w' h => drP_no h fun hk => hp hk.1
  · refine .inl ⟨3, .inr (.inl rfl), fun A c w hr hc hcm => read_form A n c z w hr hc hcm hn2 hf, fun A c w hr hc hcm => ?_⟩
    by_cases h8 : n < 8
    · exact dr_short A n c w hn2 h8
    · obtain ⟨b, off, rfl, hr2⟩ := hr.row (by omega)
      have hcl := cls_le (z 4)
      by_cases h5 : cls (z 4) = 5
      · exact dr_kind b off n c z w hr2 hn2 (by omega) h5
      · by_cases hh : n < hdN (cls (z 4))
        · exact dr_head b off n c z w hr2 hn2 (by omega) _ rfl (by omega) hh
        · obtain ⟨m, hm1, hm2⟩ := pos_cases (tlZ (cls (z 4)) z) (n - hdN (cls (z 4)))
          exact (dr_main b off n c z w hr2 hc hcm hn2 (by omega) _ rfl (by omega) (by omega) m ⟨hm1, hm2⟩).mono fun e w' h => drP_no h fun hk => hf hk.2.2
end Go.Proofs.YtkiaijmhoikdiaaGreat

/- Bytes are offered to the store and to the document's: both answer alike, and hold the same. Each theorem states its conditions. -/
namespace Go.Proofs.YtkiaijmhoikdiaaGreat
open Go.RowKit Go.MapKept
set_option linter.unusedVariables false
set_option linter.unusedSimpArgs false

theorem same_inRg {H : Nat → Option Hd} {R : List Rh} (h : SameHR H R) : InRg H 0 mxI (R.map (·.x)) := by
  refine ⟨List.pairwise_map.2 h.1, fun x => ?_⟩
  rw [List.mem_map, h.2]
  constructor
  · rintro ⟨r, hr, rfl⟩
    exact ⟨⟨r, hr, rfl, rfl⟩, Nat.zero_le _, le_mx r.x.2⟩
  · rintro ⟨⟨r, hr, e, _⟩, _, _⟩
    exact ⟨r, hr, Subtype.ext e⟩
theorem two_len {w : World} {B s m k : Nat} {H : Nat → Option Hd} {r : Bool} {R : List Rh} (h : StAt w B s m H k r) (hs : SameHR H R) : k = R.length := by
  obtain ⟨M, hM, hMH, hMA, _⟩ := h.map
  have := map_count hM hMH (fun i g e => by
    cases hMi : M i with
    | none => rw [(hMH i).1 hMi] at e; cases e
    | some g9 => exact (hMA i g9 g hMi e).2.1) (fun n hn => le_mx hn) (same_inRg hs)
  rw [List.length_map] at this
  exact this.symm
theorem hdZ_life (n : Nat) (z : Nat → Int) (hz : ∀ j, 0 ≤ z j ∧ z j ≤ 255) : (0 ≤ (hdZ n z).li ∧ (hdZ n z).li ≤ 65535) ∧ (0 ≤ (hdZ n z).pu ∧ (hdZ n z).pu < 60) := by
  have e : (hdZ n z).li = (((numZ (fun j => z (10 + j)) 0 2).toNat : Nat) : Int) := rfl
  have e2 : (hdZ n z).pu = 0 := rfl
  have := numZ_lt (fun j => z (10 + j)) 0 2 (fun j => hz _)
  rw [e, e2]
  omega
structure Fr2 (w w' : World) (s m sr : Nat) : Prop where
  os : w'.os = w.os
  tape : w'.tape = w.tape
  output : w'.output = w.output
  size : w.heap.size ≤ w'.heap.size
  block : ∀ i, i < w.heap.size → i ≠ s → i ≠ m → i ≠ sr → w'.heap[i]? = w.heap[i]?
theorem Fr2.to_below {w w' : World} {s m sr B : Nat} (h : Fr2 w w' s m sr) (h1 : B ≤ s) (h2 : B ≤ m) (h3 : B ≤ sr) (hB : B ≤ w.heap.size) : Below B w w' := ⟨h.os, h.tape, h.output, h.size, fun i hi => h.block i (by omega) (by omega) (by omega) (by omega)⟩
theorem Fr2.of_below {w w' : World} (s m sr : Nat) (h : Below w.heap.size w w') : Fr2 w w' s m sr := ⟨h.os, h.tape, h.output, h.size, fun i hi _ _ _ => h.block i hi⟩
theorem Fr2.of_fr {w w' : World} {s m : Nat} (sr : Nat) (h : Fr w w' s m) : Fr2 w w' s m sr := ⟨h.os, h.tape, h.output, h.size, fun i hi h1 h2 _ => h.block i hi h1 h2⟩
theorem Fr2.of_fr1 {w w' : World} {sr : Nat} (s m : Nat) (h : Fr1 w w' sr) : Fr2 w w' s m sr := ⟨h.os, h.tape, h.output, h.size, fun i hi _ _ h3 => h.block i hi h3⟩
theorem Fr2.trans {w w1 w2 : World} {s m sr : Nat} (h : Fr2 w w1 s m sr) (k : Fr2 w1 w2 s m sr) : Fr2 w w2 s m sr := ⟨k.os.trans h.os, k.tape.trans h.tape, k.output.trans h.output, Nat.le_trans h.size k.size, fun i hi h1 h2 h3 => (k.block i (Nat.lt_of_lt_of_le hi h.size) h1 h2 h3).trans (h.block i hi h1 h2 h3)⟩
theorem Fr2.st {w w1 w2 : World} {s m sr g : Nat} {C : Array Value} {t : TypeId} (h : Fr2 w w1 s m sr) (q : Stored w1 w2 g C t) (hg : w.heap.size ≤ g) : Fr2 w w2 s m sr := ⟨(q.2.1 0 (Nat.zero_le _)).os.trans h.os, (q.2.1 0 (Nat.zero_le _)).tape.trans h.tape, (q.2.1 0 (Nat.zero_le _)).output.trans h.output, Nat.le_trans h.size (q.2.1 0 (Nat.zero_le _)).size, fun i hi h1 h2 h3 => (q.2.2 i (by omega)).trans (h.block i hi h1 h2 h3)⟩
theorem two_put {w w1 v v1 : World} {B s m sr k : Nat} {H : Nat → Option Hd} {R : List Rh} {r : Bool} {t : Hd} {x1 E1 x2 E2 : Int} (h1 : PutP w B s m H k r t (.returned (.tuple #[.int .i64 x1, .int .i64 E1])) w1) (h2 : DPutP v B sr R r t (.returned (.tuple #[.int .i64 x2, .int .i64 E2])) v1) (hs : SameHR H R) (hk : k = R.length) (hk5 : k ≤ 512) :
    x1 = x2 ∧ E1 = E2 ∧ Fr1 v v1 sr ∧ ∃ H' k' R' r', StAt w1 B s m H' k' r' ∧ RfAt v1 B sr R' r' ∧ SameHR H' R' ∧ k' ≤ 512 ∧ (∀ r9 ∈ R', r9 ∈ R ∨ v.heap.size ≤ r9.g) ∧ ∀ i h9, H' i = some h9 → H i = some h9 ∨ h9 = t := by
  obtain ⟨x, E, he, _, hc⟩ := h1
  obtain ⟨y, F, hf, hfr, hd⟩ := h2
  have e1 : x1 = x ∧ E1 = E := by injection he with he; injection he with he; simp at he; exact he
  have e2 : x2 = y ∧ E2 = F := by injection hf with hf; injection hf with hf; simp at hf; exact hf
  obtain ⟨rfl, rfl⟩ := e1
  obtain ⟨rfl, rfl⟩ := e2
  have key : ∀ q ∈ R, q.x.1.id = t.id → H t.id = some q.x.1 := fun q hq e => (hs.2 t.id q.x.1).2 ⟨q, hq, rfl, e⟩
  have kno : (∀ q ∈ R, q.x.1.id ≠ t.id) → H t.id = none := fun hn => by
    cases hH : H t.id with
    | none => rfl
    | some g => obtain ⟨q, hq, e, hi⟩ := (hs.2 t.id g).1 hH; exact absurd (by rw [e]; exact hi) (hn q hq)
  rcases hc with ⟨a1, a2, rfl, rfl, a5⟩ | ⟨a1, a2, rfl, rfl, a5⟩ | ⟨h, a1, a2, rfl, rfl, a5⟩ | ⟨h, a1, a2, rfl, rfl, a5⟩
  · rcases hd with ⟨h9, b0, b1, b2, b3, rfl, rfl, b5⟩ | ⟨b1, b2, _⟩ | ⟨q, b0, b1, _⟩ | ⟨h9, b0, b9, q, b1, b2, _⟩
    · exact ⟨rfl, rfl, hfr, _, _, _, _, a5, b5, by rw [← b0]; exact same_ins hs, by omega, fun r9 hr => (ins_mem hr).elim .inl (fun e => .inr (by rw [e]; exact b1)), put_from⟩
    · omega
    · rw [key q b0 b1] at a1; cases a1
    · rw [key q b1 b2] at a1; cases a1
  · rcases hd with ⟨h9, b0, b1, b2, b3, _⟩ | ⟨b1, b2, rfl, rfl, b5⟩ | ⟨q, b0, b1, _⟩ | ⟨h9, b0, b9, q, b1, b2, _⟩
    · omega
    · exact ⟨rfl, rfl, hfr, _, _, _, _, a5, b5, hs, hk5, fun r9 hr => .inl hr, fun i h9 e => .inl e⟩
    · rw [key q b0 b1] at a1; cases a1
    · rw [key q b1 b2] at a1; cases a1
  · rcases hd with ⟨h9, b0, b1, b2, _⟩ | ⟨b1, _⟩ | ⟨q, b0, b1, b2, rfl, rfl, b5⟩ | ⟨h9, b0, b9, q, b1, b2, b3, _⟩
    · rw [kno b2] at a1; cases a1
    · rw [kno b1] at a1; cases a1
    · have := (key q b0 b1).symm.trans a1
      cases this
      exact ⟨rfl, rfl, hfr, _, _, _, _, a5, b5, hs, hk5, fun r9 hr => .inl hr, fun i h9 e => .inl e⟩
    · have := (key q b1 b2).symm.trans a1
      cases this
      omega
  · rcases hd with ⟨h9, b0, b1, b2, _⟩ | ⟨b1, _⟩ | ⟨q, b0, b1, b2, _⟩ | ⟨h9, b0, b9, q, b1, b2, b3, rfl, rfl, b5⟩
    · rw [kno b2] at a1; cases a1
    · rw [kno b1] at a1; cases a1
    · have := (key q b0 b1).symm.trans a1
      cases this
      omega
    · exact ⟨rfl, rfl, hfr, _, _, _, _, a5, b5, by rw [← b0]; exact same_ins hs, hk5, fun r9 hr => (ins_mem hr).elim .inl (fun e => .inr (by rw [e]; exact b9)), put_from⟩
section
variable {w w' : World} {B s m sr k G : Nat} {H : Nat → Option Hd} {R : List Rh} {r : Bool}
theorem blk_ne {t t' : TypeId} {x y : Nat} {C D : Array Value} (h : Blk t w x C) (h' : Blk t' w y D) (ht : t ≠ t') : x ≠ y := by
  rintro rfl
  have e1 : w.heap[x]? = _ := h
  have e2 : w.heap[x]? = _ := h'
  rw [e1] at e2
  injection e2 with e2
  injection e2 with _ e2 _
  exact ht e2
theorem RfAt.other (h : RfAt w B sr R r) (hs : Sh w s m) (hf : Fr w w' s m) : RfAt w' B sr R r := by
  obtain ⟨⟨r2, hs1⟩, es2, c2, hs2⟩ := hs
  have cells : ∀ {x : Nat} {D : Array Value} {ty : TypeId}, w.heap[x]? = some (.cells D ty (0, 0)) → ty ≠ 76 → w'.heap[x]? = w.heap[x]? := fun {x D ty} hx hty => by
    refine hf.block x (Array.getElem?_eq_some_iff.1 hx).1 (blk_ne (t := ty) (t' := 76) hx hs1 hty) ?_
    rintro rfl
    rw [hs2] at hx
    cases hx
  obtain ⟨h1, h2, v, h3, h4⟩ := h
  refine ⟨h1, fun q hq => ⟨⟨?_, (h2 q hq).1.2⟩, (h2 q hq).2⟩, v, (cells h3 (by decide)).trans h3, ?_⟩
  · obtain ⟨⟨cur, e, _⟩, _⟩ := (h2 q hq).1.1
    exact Own8.block (h2 q hq).1.1 (cells e (by decide))
  · rcases h4 with ⟨o1, o2 | ⟨g9, cap9, cur9, o2, o3, o4, rest⟩⟩
    · exact ⟨o1, .inl o2⟩
    · exact ⟨o1, .inr ⟨g9, cap9, cur9, o2, o3, (cells o4 (by decide)).trans o4, rest⟩⟩
theorem StAt.other1 {C : Array Value} (h : StAt w B s m H k r) (hs : Blk 29 w sr C) (hf : Fr1 w w' sr) : StAt w' B s m H k r ∧ (Rows w m G → Rows w' m G) := by
  have cells : ∀ {x : Nat} {D : Array Value} {ty : TypeId}, w.heap[x]? = some (.cells D ty (0, 0)) → ty ≠ 29 → w'.heap[x]? = w.heap[x]? := fun {x D ty} hx hty => hf.block x (Array.getElem?_eq_some_iff.1 hx).1 (blk_ne (t := ty) (t' := 29) hx hs hty)
  have hst := h
  obtain ⟨g1, g2, g3, M, ⟨es, c, g4, g4'⟩, g5, g6, g7⟩ := h
  have hm : w'.heap[m]? = w.heap[m]? := by
    refine hf.block m (Array.getElem?_eq_some_iff.1 g4).1 ?_
    rintro rfl
    have e1 : w.heap[m]? = _ := hs
    rw [g4] at e1
    cases e1
  refine ⟨⟨g1, g2, (cells g3 (by decide)).trans g3, M, ⟨es, c, hm.trans g4, g4'⟩, g5, fun i g x e1 e2 => ?_, g7⟩, fun hR M1 k1 hM1 i g e h A cc hk => ?_⟩
  · obtain ⟨⟨a0, ro, oa, c9, a1, a2, a3, a4⟩, a5⟩ := g6 i g x e1 e2
    obtain ⟨cur9, hc9⟩ := a2.2
    exact ⟨⟨a0, ro, oa, c9, (cells a1 (by decide)).trans a1, a2.block (cells hc9 (by decide)), a3, a4⟩, a5⟩
  · have hM0 : MapAt w m M1 k1 := hM1.at hm.symm
    have e0 := map_sub hM0 ⟨es, c, g4, g4'⟩ e
    cases hH : H i with
    | none => rw [(g5 i).2 hH] at e0; cases e0
    | some h0 =>
      obtain ⟨_, ro, oa, c9, a1, _⟩ := (g6 i g h0 e0 hH).1
      exact hR M1 k1 hM0 i g e h A cc ((cells a1 (by decide)).symm.trans hk)
theorem rf_turn {C cur : Array Value} (h : RfAt w B sr R r) (hR : ∀ q ∈ R, q.g ≠ G) (hs : Stored w w' G C 5) (h8 : w.heap[G]? = some (.cells cur 5 (0, 0))) : RfAt w' B sr R r := by
  obtain ⟨h1, h2, v, h3, h4⟩ := h
  refine ⟨h1, fun q hq => ⟨⟨Own8.block (h2 q hq).1.1 (hs.2.2 _ (hR q hq)), (h2 q hq).1.2⟩, (h2 q hq).2⟩, v, (hs.2.2 sr (blk_ne (t := 29) (t' := 5) h3 h8 (by decide))).trans h3, ?_⟩
  rcases h4 with ⟨o1, o2 | ⟨g9, cap9, cur9, o2, o3, o4, rest⟩⟩
  · exact ⟨o1, .inl o2⟩
  · exact ⟨o1, .inr ⟨g9, cap9, cur9, o2, o3, (hs.2.2 g9 (blk_ne (t := 95) (t' := 5) o4 h8 (by decide))).trans o4, rest⟩⟩
end
def Stays (w : World) (B : Nat) (A : Option Addr) (n : Nat) (z : Nat → Int) : Prop := Rd w A n z ∧ (0 < n → ∀ b off, A = some ⟨b, off, none⟩ → b < B ∨ ∃ cur, w.heap[b]? = some (.cells cur 5 (0, 0)))
theorem rd_block {w w' : World} {A : Option Addr} {n : Nat} {z : Nat → Int} (h : Rd w A n z) (hb : 0 < n → ∀ b off, A = some ⟨b, off, none⟩ → b < w.heap.size → w'.heap[b]? = w.heap[b]?) : Rd w' A n z := by
  rcases h with ⟨h1 | ⟨b, off, rfl, hr⟩, hz⟩
  · exact ⟨.inl h1, hz⟩
  · rcases Nat.eq_zero_or_pos n with h0 | h0
    · exact ⟨.inl h0, hz⟩
    have e := hb h0 b off rfl hr.1
    refine ⟨.inr ⟨b, off, rfl, (Array.getElem?_eq_some_iff.1 (e.trans (Array.getElem?_eq_getElem hr.1))).1, fun j hj => ?_, hr.2.2⟩, hz⟩
    have h9 := hr.2.1 j hj
    simp only [World.cell?, e] at h9 ⊢
    exact h9
section
variable {w w' : World} {B s m sr n : Nat} {A : Option Addr} {z : Nat → Int}
theorem Stays.below (h : Stays w B A n z) (hb : Below w.heap.size w w') (hB : B ≤ w.heap.size) : Stays w' B A n z := by
  refine ⟨rd_block h.1 (fun _ b off _ hlt => hb.block b hlt), fun h0 b off e => ?_⟩
  rcases h.2 h0 b off e with h | ⟨cur, h⟩
  · exact .inl h
  · exact .inr ⟨cur, (hb.block b (Array.getElem?_eq_some_iff.1 h).1).trans h⟩
theorem Stays.fr (h : Stays w B A n z) (hs : Sh w s m) (h1 : B ≤ s) (h2 : B ≤ m) (hf : Fr w w' s m) : Stays w' B A n z := by
  obtain ⟨⟨r2, hs1⟩, es2, c2, hs2⟩ := hs
  have key : 0 < n → ∀ b off, A = some ⟨b, off, none⟩ → b < w.heap.size → w'.heap[b]? = w.heap[b]? := fun h0 b off e hlt => by
    rcases h.2 h0 b off e with h | ⟨cur, h⟩
    · exact hf.block b hlt (by omega) (by omega)
    · refine hf.block b hlt (blk_ne (t := 5) (t' := 76) h hs1 (by decide)) ?_
      rintro rfl
      rw [hs2] at h
      cases h
  refine ⟨rd_block h.1 key, fun h0 b off e => ?_⟩
  rcases h.2 h0 b off e with h | ⟨cur, h⟩
  · exact .inl h
  · exact .inr ⟨cur, (key h0 b off e (Array.getElem?_eq_some_iff.1 h).1).trans h⟩
theorem Stays.fr1 {C : Array Value} (h : Stays w B A n z) (hs : Blk 29 w sr C) (h1 : B ≤ sr) (hf : Fr1 w w' sr) : Stays w' B A n z := by
  have key : 0 < n → ∀ b off, A = some ⟨b, off, none⟩ → b < w.heap.size → w'.heap[b]? = w.heap[b]? := fun h0 b off e hlt => by
    rcases h.2 h0 b off e with h | ⟨cur, h⟩
    · exact hf.block b hlt (by omega)
    · exact hf.block b hlt (blk_ne (t := 5) (t' := 29) h hs (by decide))
  refine ⟨rd_block h.1 key, fun h0 b off e => ?_⟩
  rcases h.2 h0 b off e with h | ⟨cur, h⟩
  · exact .inl h
  · exact .inr ⟨cur, (key h0 b off e (Array.getElem?_eq_some_iff.1 h).1).trans h⟩
end
theorem own_one {w : World} {g n c i : Nat} {z : Nat → Int} (h : Own8 w g n c z) (hi : i < n) : ∃ cur, Blk 5 w g cur ∧ i < cur.size ∧ ∀ (w' : World) (a : Int), (0 ≤ a ∧ a ≤ 255) → Blk 5 w' g (putMany cur i [.int .u8 a]) → ∃ z', Own8 w' g n c z' := by
  obtain ⟨⟨cur, h1, h2, h3, h4, h5⟩, h6⟩ := h
  refine ⟨cur, h1, by omega, fun w' a ha hw => ⟨fun j => if j = i then a else z j, ⟨_, hw, h2, h3, by simp [putMany, h4], fun j hj => ?_⟩, fun j => ?_⟩⟩
  · simp only [putMany]
    by_cases e : j = i
    · subst e
      rw [Array.getElem?_setIfInBounds_self_of_lt (by omega)]
      simp
    · rw [Array.getElem?_setIfInBounds_ne (fun e' => e e'.symm), h5 j hj]
      simp [e]
  · dsimp only
    split
    · exact ha
    · exact h6 j
theorem xor1P (x : Int) (h : 0 ≤ x ∧ x ≤ 255) : 0 ≤ Go.bits .xor .u8 x 1 ∧ Go.bits .xor .u8 x 1 ≤ 255 := by
  have : ∀ n : Nat, n < 256 → 0 ≤ Go.bits .xor .u8 (n : Int) 1 ∧ Go.bits .xor .u8 (n : Int) 1 ≤ 255 := by decide +kernel
  have h9 := this x.toNat (by omega)
  rw [Int.toNat_of_nonneg h.1] at h9
  exact h9
structure TwoAt (w : World) (B s m sr : Nat) (H : Nat → Option Hd) (k : Nat) (R : List Rh) (r : Bool) : Prop where
  st : StAt w B s m H k r
  rf : RfAt w B sr R r
  same : SameHR H R
  k5 : k ≤ 512
theorem TwoAt.below {w w' : World} {B s m sr k : Nat} {H : Nat → Option Hd} {R : List Rh} {r : Bool} (h : TwoAt w B s m sr H k R r) (hb : Below w.heap.size w w') : TwoAt w' B s m sr H k R r := ⟨h.st.below hb, h.rf.below hb, h.same, h.k5⟩
def BothP (w : World) (B s m sr : Nat) (H : Nat → Option Hd) (k : Nat) (R : List Rh) (r : Bool) (n : Nat) (z : Nat → Int) : Prop :=
  (∃ E : Int, (∀ (A : Option Addr) (c : Nat) (W : World), Rd W A n z → n ≤ c → c ≤ maxLen → Calls Tryz.prog 14 #[.pointer (some ⟨s, 0, none⟩), .slice A n c] W fun e w' => e = .returned (.tuple #[.int .i64 0, .int .i64 E]) ∧ Below W.heap.size W w') ∧
    ∀ (A : Option Addr) (c : Nat) (W : World), Rd W A n z → n ≤ c → c ≤ maxLen → Calls Tryz.prog 16 #[.pointer (some ⟨sr, 0, none⟩), .slice A n c] W fun e w' => e = .returned (.tuple #[.int .i64 0, .int .i64 E]) ∧ Below W.heap.size W w') ∨
  ((∀ (A : Option Addr) (c G : Nat) (W : World), StAt W B s m H k r → Rd W A n z → n ≤ c → c ≤ maxLen → Calls Tryz.prog 14 #[.pointer (some ⟨s, 0, none⟩), .slice A n c] W (PutG W B s m H k r G (hdZ n z))) ∧
    ∀ (A : Option Addr) (c : Nat) (W : World), RfAt W B sr R r → Rd W A n z → n ≤ c → c ≤ maxLen → Calls Tryz.prog 16 #[.pointer (some ⟨sr, 0, none⟩), .slice A n c] W (DPutP W B sr R r (hdZ n z)))
theorem both_put (w : World) (B s m sr : Nat) (H : Nat → Option Hd) (k : Nat) (R : List Rh) (r : Bool) (n : Nat) (z : Nat → Int) (h5 : k ≤ 512) (hs : SameHR H R) (hl : R.length ≤ 600) : BothP w B s m sr H k R r n z := by
  rcases both_rd n z with ⟨E, hE, hb⟩ | ⟨q, hn2, hg, hb⟩
  · exact .inl ⟨E, fun A c W hr hc hcm => put_no A n c s E W (by rcases hE with rfl | rfl | rfl <;> rfl) (read_err A n c W E hE (hb.1 A c W hr hc hcm)), fun A c W hr hc hcm => docPutR_no A n c sr E hE W (hb.2 A c W hr hc hcm)⟩
  · have hhd := hg.1.2.2.1
    have hq4 := hg.1.2.1
    have hbd := hdN_bd _ hq4
    by_cases hq : cls (z 4) = 2
    · have h27 : 27 ≤ n := by
        rw [hq] at hhd
        have h2 : hdN 2 = 27 := rfl
        omega
      refine .inr ⟨fun A c G W hst hr hc hcm => ?_, fun A c W hrf hr hc hcm => ?_⟩
      · exact put_yesG A n c z q B s m k G H r W hst h5 hq ⟨h27, hn2⟩ hr hc hcm (by have h9 := hb.1 A c W hr hc hcm; rw [hq] at h9; exact h9)
      · exact docPutR_yes A n c B sr q R r z W hrf hs.1 hl hq ⟨h27, hn2⟩ hr hc hcm hg (by have h9 := hb.2 A c W hr hc hcm; rw [hq] at h9; exact h9)
    · refine .inl ⟨3, fun A c W hr hc hcm => put_no A n c s 3 W rfl (read_oth A n c z (cls (z 4)) q W rfl hq (by omega) hr hc hcm (hb.1 A c W hr hc hcm)), fun A c W hr hc hcm => docPutR_oth A n c sr (cls (z 4)) q z W rfl hq4 hq (hb.2 A c W hr hc hcm)⟩
theorem rd_spare {w : World} {g n cap : Nat} {z : Nat → Int} (h : Own8 w g (n + 3) cap (spZ z n)) (hz : ∀ j, 0 ≤ z j ∧ z j ≤ 255) : Rd w (some ⟨g, 0, none⟩) n z := by
  refine ⟨.inr ⟨g, 0, rfl, Own8.lt h, fun j hj => ?_, hz⟩, hz⟩
  rw [Nat.zero_add, own8_at h (by omega), spZ_in z n j hj]
theorem own8_fr {w w' : World} {g n cap s m : Nat} {z : Nat → Int} (h : Own8 w g n cap z) (hs : Sh w s m) (hf : Fr w w' s m) : Own8 w' g n cap z := by
  obtain ⟨⟨r2, hs1⟩, es2, c2, hs2⟩ := hs
  have h0 := h
  obtain ⟨⟨cur, e, _⟩, _⟩ := h0
  refine Own8.block h (hf.block g (Own8.lt h) (blk_ne (t := 5) (t' := 76) e hs1 (by decide)) ?_)
  rintro rfl
  rw [hs2] at e
  cases e
def PutT (w : World) (B s m sr : Nat) (H0 : Nat → Option Hd) (e : Ending) (w' : World) : Prop := e = .returned (.bool true) ∧ Fr2 w w' s m sr ∧ ∃ H k R r, TwoAt w' B s m sr H k R r ∧ (LifeH H0 → LifeH H)
set_option maxHeartbeats 40000000 in
set_option maxRecDepth 100000 in
theorem putT_any (B s m sr k : Nat) (H : Nat → Option Hd) (R : List Rh) (r : Bool) (A : Option Addr) (n c : Nat) (z : Nat → Int) (w : World) (h2 : TwoAt w B s m sr H k R r) (hA : Stays w B A n z) (hno : A = none → n = 0 ∧ c = 0) (hc : n ≤ c) (hcm : c ≤ maxLen) (hn : n ≤ 140737488351232) : Calls Tryz.prog 8 #[.pointer (some ⟨s, 0, none⟩), .pointer (some ⟨sr, 0, none⟩), .slice A n c] w (PutT w B s m sr H) := by
  have HT := Lib.hid h2
  have HS := Lib.hid hA
  have HNO := Lib.hid hno
  have HC := Lib.hid (And.intro hc hcm)
  have HNN := Lib.hid hn
  have hln : k = R.length := two_len h2.st h2.same
  have HLN := Lib.hid hln
  have HBP := Lib.hid (both_put w B s m sr H k R r n z h2.k5 h2.same (by have := h2.k5; omega))
  have HBw : Hid (B ≤ w.heap.size) := Lib.hid h2.st.ltB
  have hnI : (n : Int) + 3 ≤ 9223372036854775807 := by omega
  clear h2 hA hno hc hcm hn hln
  go_enter Tryz.func8, Tryz.ntmps8
  go_wp2_with fail
  refine (spare_any A n c z w HS.out.1 HNO.out HNN.out).mono ?_
  rintro e w1 ⟨g, cap, rfl, hg, hO, b1⟩
  have HO := Lib.hid hO
  have HGW := Lib.hid hg
  have HT1 := Lib.hid (HT.out.below b1)
  have HS1 := Lib.hid (HS.out.below b1 HBw.out)
  have HR1 : Hid (Rows w1 m g) := Lib.hid (rows_below HT.out.st (rows_new HT.out.st hg) b1)
  have HRQ : Hid (∀ q ∈ R, q.g ≠ g) := Lib.hid (fun q hq => by have := (HT.out.rf.ok q hq).1.lt; omega)
  have HF : Hid (Fr2 w w1 s m sr) := Lib.hid (Fr2.of_below s m sr b1)
  have HB1 : Hid (B ≤ w1.heap.size) := Lib.hid (Nat.le_trans HBw.out b1.size)
  have HBg : Hid (B ≤ g) := Lib.hid (Nat.le_trans HBw.out hg)
  clear hO hg b1
  have HCAP := Lib.hid HO.out.caps
  have HRD1 : Hid (Rd w1 (some ⟨g, 0, none⟩) n z) := Lib.hid (rd_spare HO.out HS.out.1.2)
  rcases HBP.out with ⟨E, hp, hd⟩ | ⟨hp, hd⟩
  · have HP := Lib.hid (hp (some ⟨g, 0, none⟩) cap w1 HRD1.out (by have := HCAP.out.1; omega) HCAP.out.2)
    have HD := Lib.hid hd
    clear hp hd
    go_wp2_with fail
    refine HP.out.mono ?_
    rintro e w2 ⟨rfl, b1⟩
    have HTn := Lib.hid (HT1.out.below b1)
    have HSn := Lib.hid (HS1.out.below b1 HB1.out)
    have HRn := Lib.hid (rows_below HT1.out.st HR1.out b1)
    have HFn : Hid (Fr2 w w2 s m sr) := Lib.hid (HF.out.trans (Fr2.of_below s m sr b1))
    have HOn := Lib.hid (Own8.below HO.out b1 (Own8.lt HO.out))
    have HBn : Hid (B ≤ w2.heap.size) := Lib.hid (Nat.le_trans HB1.out b1.size)
    clear HT1 HS1 HR1 HF HO HB1
    have HT1 := HTn
    have HS1 := HSn
    have HR1 := HRn
    have HF := HFn
    have HO := HOn
    have HB1 := HBn
    clear HTn HSn HRn HFn HOn HBn
    clear b1 HP
    go_wp2_with fail
    refine (HD.out A c w2 HS1.out.1 HC.out.1 HC.out.2).mono ?_
    rintro e w3 ⟨rfl, b1⟩
    have HTn := Lib.hid (HT1.out.below b1)
    have HSn := Lib.hid (HS1.out.below b1 HB1.out)
    have HRn := Lib.hid (rows_below HT1.out.st HR1.out b1)
    have HFn : Hid (Fr2 w w3 s m sr) := Lib.hid (HF.out.trans (Fr2.of_below s m sr b1))
    have HOn := Lib.hid (Own8.below HO.out b1 (Own8.lt HO.out))
    have HBn : Hid (B ≤ w3.heap.size) := Lib.hid (Nat.le_trans HB1.out b1.size)
    clear HT1 HS1 HR1 HF HO HB1
    have HT1 := HTn
    have HS1 := HSn
    have HR1 := HRn
    have HF := HFn
    have HO := HOn
    have HB1 := HBn
    clear HTn HSn HRn HFn HOn HBn
    clear b1 HD
    have HOz := HO
    have HSz := HS1
    go_wp2_with fail
    refine (kept_yes g n cap A c z w3 HOz.out HSz.out.1 HNN.out).mono ?_
    rintro e w4 ⟨rfl, q4, hw4⟩
    have b4 : Below w3.heap.size w3 w4 := by rw [hw4]; exact ⟨rfl, rfl, rfl, Nat.le_refl _, fun _ _ => rfl⟩
    have HTn := Lib.hid (HT1.out.below b4)
    have HSn := Lib.hid (HS1.out.below b4 HB1.out)
    have HRn := Lib.hid (rows_below HT1.out.st HR1.out b4)
    have HFn : Hid (Fr2 w w4 s m sr) := Lib.hid (HF.out.trans (Fr2.of_below s m sr b4))
    have HOn := Lib.hid (Own8.below HO.out b4 (Own8.lt HO.out))
    have HBn : Hid (B ≤ w4.heap.size) := Lib.hid (Nat.le_trans HB1.out b4.size)
    clear HT1 HS1 HR1 HF HO HB1
    have HT1 := HTn
    have HS1 := HSn
    have HR1 := HRn
    have HF := HFn
    have HO := HOn
    have HB1 := HBn
    clear HTn HSn HRn HFn HOn HBn
    clear b4 hw4 HOz HSz
    have HOz : Hid (∃ z', Own8 w4 g (n + 3) cap z') := Lib.hid ⟨_, HO.out⟩
    have HRz := HR1
    have HFz := HF
    have HRQz := HRQ
    have hcapI : (cap : Int) ≤ 9223372036854775807 := by have h9 : maxLen = 9223372036854775807 := rfl; have := HCAP.out.2; omega
    go_wp2_with fail
    go_loopw [37] (fun t wr => ∃ i : Nat, i ≤ n + 3 ∧ t = .int .i64 i ∧ Hid (∃ z', Own8 wr g (n + 3) cap z') ∧ Hid (TwoAt wr B s m sr H k R r) ∧ Hid (Rows wr m g) ∧ Hid (Fr2 w wr s m sr)) (fun t _ => n + 3 - (intOf t).toNat)
    case atStart => exact ⟨0, by omega, rfl, HOz, HT1, HRz, HFz⟩
    case round =>
      clear HOz HT1 HRz HFz
      obtain ⟨i, hi, rfl, HOr, HTr, HRr, HFr⟩ := hrel
      by_cases hlt : i < n + 3
      · have hki : (i : Int) < (n : Int) + 3 := by omega
        obtain ⟨z9, hz9⟩ := HOr.out
        have HZ9 := Lib.hid hz9
        obtain ⟨cur, hcur, hsz, hfin⟩ := own_one hz9 hlt
        have KC := Lib.hid hcur
        have HFI := Lib.hid hfin
        have HSZ := Lib.hid hsz
        obtain ⟨x, hx⟩ : ∃ x, z9 i = x := ⟨_, rfl⟩
        have cx : wr.cell? ⟨g, i, none⟩ = some (.int .u8 x) := by rw [← hx]; exact own8_at hz9 hlt
        have HXB : Hid (0 ≤ x ∧ x ≤ 255) := Lib.hid (by rw [← hx]; exact hz9.2 i)
        clear hz9 hcur hsz hfin hx
        go_wp2_with (refine wpList_st rfl 5 (.tmp 45) (.tmp 44) rfl g i rfl (.int .u8 (Go.bits .xor .u8 x 1)) #[.int .u8 (Go.bits .xor .u8 x 1)] rfl rfl info_u81 (one_u8v _) KC.out (by have := HSZ.out; simp; omega) (C' := putMany cur i [.int .u8 (Go.bits .xor .u8 x 1)]) rfl ?_; intro w9 q1; refine Hid.out ?_)
        refine Lib.hid ?_
        have HO9 : Hid (∃ z', Own8 w9 g (n + 3) cap z') := Lib.hid (HFI.out w9 _ (xor1P x HXB.out) q1.1)
        have hst9 := st_turn HTr.out.st HRr.out q1 KC.out
        have HT9 : Hid (TwoAt w9 B s m sr H k R r) := Lib.hid ⟨hst9.1, rf_turn HTr.out.rf HRQz.out q1 KC.out, HTr.out.same, HTr.out.k5⟩
        have HR9 := Lib.hid hst9.2
        have HF9 : Hid (Fr2 w w9 s m sr) := Lib.hid (HFr.out.st q1 HGW.out)
        clear q1 hst9 cx KC HFI HSZ HZ9 HOr HTr HRr HFr
        go_wp2_with fail
        go_roundw
        case rel => exact ⟨i + 1, by omega, by go_num, HO9, HT9, HR9, HF9⟩
        case measure => simp only [intOf]; omega
      · obtain rfl : i = n + 3 := by omega
        go_wp2_with fail
        go_ret
        exact ⟨rfl, HFr.out, H, k, R, r, HTr.out, id⟩
  · have HP := Lib.hid (hp (some ⟨g, 0, none⟩) cap g w1 HT1.out.st HRD1.out (by have := HCAP.out.1; omega) HCAP.out.2)
    have HD := Lib.hid hd
    clear hp hd
    go_wp2_with fail
    refine HP.out.mono ?_
    rintro e w2 ⟨hpp, hrows⟩
    have hpp0 := hpp
    obtain ⟨x1, E1, rfl, hf, _⟩ := hpp
    have HPP := Lib.hid hpp0
    have HRF2 := Lib.hid (HT1.out.rf.other HT1.out.st.sh hf)
    have HS2 := Lib.hid (HS1.out.fr HT1.out.st.sh HT1.out.st.hs HT1.out.st.hb hf)
    have HR2 := Lib.hid (hrows HR1.out (Own8.lt HO.out))
    have HO2 : Hid (Own8 w2 g (n + 3) cap (spZ z n)) := Lib.hid (own8_fr HO.out HT1.out.st.sh hf)
    have HF2 : Hid (Fr2 w w2 s m sr) := Lib.hid (HF.out.trans (Fr2.of_fr sr hf))
    have HB2 : Hid (B ≤ w2.heap.size) := Lib.hid (Nat.le_trans HB1.out hf.size)
    have HG2 : Hid (g < w2.heap.size) := Lib.hid (Own8.lt HO2.out)
    clear hpp0 hf hrows HP
    go_wp2_with fail
    refine (HD.out A c w2 HRF2.out HS2.out.1 HC.out.1 HC.out.2).mono ?_
    rintro e w3 hdd
    have hdd0 := hdd
    obtain ⟨x2, E2, rfl, _, _⟩ := hdd
    obtain ⟨hx, hE, hf1, H2, k2, R2, r2, hst2, hrf2, hsm2, hk52, hmem, hfrm⟩ := two_put HPP.out hdd0 HT.out.same HLN.out HT.out.k5
    subst hx
    subst hE
    obtain ⟨v9, hv9, _⟩ := HRF2.out.st
    have hro := hst2.other1 (G := g) hv9 hf1
    have HT3 : Hid (TwoAt w3 B s m sr H2 k2 R2 r2) := Lib.hid ⟨hro.1, hrf2, hsm2, hk52⟩
    have HR3 := Lib.hid (hro.2 HR2.out)
    have HS3 := Lib.hid (HS2.out.fr1 hv9 HRF2.out.hs hf1)
    have HO3 : Hid (Own8 w3 g (n + 3) cap (spZ z n)) := Lib.hid (Own8.block HO2.out (hf1.block g HG2.out (own8_ne HO2.out hv9)))
    have HF3 : Hid (Fr2 w w3 s m sr) := Lib.hid (HF2.out.trans (Fr2.of_fr1 s m hf1))
    have HB3 : Hid (B ≤ w3.heap.size) := Lib.hid (Nat.le_trans HB2.out hf1.size)
    have HRQ3 : Hid (∀ q ∈ R2, q.g ≠ g) := Lib.hid (fun q hq => by rcases hmem q hq with h | h; exact HRQ.out q h; have := HG2.out; omega)
    have HLF : Hid (LifeH H → LifeH H2) := Lib.hid (fun h => life_from h (hdZ_life n z HS3.out.1.2) hfrm)
    clear hfrm hdd0 hst2 hrf2 hsm2 hk52 hmem hv9 hro hf1 HPP HRF2 HS2 HR2 HO2 HF2 HB2 HD HT1 HS1 HR1 HF HO HB1
    have HT1 := HT3
    have HS1 := HS3
    have HR1 := HR3
    have HF := HF3
    have HO := HO3
    have HB1 := HB3
    clear HT3 HS3 HR3 HF3 HO3 HB3
    have HOz := HO
    have HSz := HS1
    go_wp2_with fail
    refine (kept_yes g n cap A c z w3 HOz.out HSz.out.1 HNN.out).mono ?_
    rintro e w4 ⟨rfl, q4, hw4⟩
    have b4 : Below w3.heap.size w3 w4 := by rw [hw4]; exact ⟨rfl, rfl, rfl, Nat.le_refl _, fun _ _ => rfl⟩
    have HTn := Lib.hid (HT1.out.below b4)
    have HSn := Lib.hid (HS1.out.below b4 HB1.out)
    have HRn := Lib.hid (rows_below HT1.out.st HR1.out b4)
    have HFn : Hid (Fr2 w w4 s m sr) := Lib.hid (HF.out.trans (Fr2.of_below s m sr b4))
    have HOn := Lib.hid (Own8.below HO.out b4 (Own8.lt HO.out))
    have HBn : Hid (B ≤ w4.heap.size) := Lib.hid (Nat.le_trans HB1.out b4.size)
    clear HT1 HS1 HR1 HF HO HB1
    have HT1 := HTn
    have HS1 := HSn
    have HR1 := HRn
    have HF := HFn
    have HO := HOn
    have HB1 := HBn
    clear HTn HSn HRn HFn HOn HBn
    clear b4 hw4 HOz HSz
    have HOz : Hid (∃ z', Own8 w4 g (n + 3) cap z') := Lib.hid ⟨_, HO.out⟩
    have HRz := HR1
    have HFz := HF
    have HRQz := HRQ3
    have hcapI : (cap : Int) ≤ 9223372036854775807 := by have h9 : maxLen = 9223372036854775807 := rfl; have := HCAP.out.2; omega
    go_wp2_with fail
    go_loopw [37] (fun t wr => ∃ i : Nat, i ≤ n + 3 ∧ t = .int .i64 i ∧ Hid (∃ z', Own8 wr g (n + 3) cap z') ∧ Hid (TwoAt wr B s m sr H2 k2 R2 r2) ∧ Hid (Rows wr m g) ∧ Hid (Fr2 w wr s m sr)) (fun t _ => n + 3 - (intOf t).toNat)
    case atStart => exact ⟨0, by omega, rfl, HOz, HT1, HRz, HFz⟩
    case round =>
      clear HOz HT1 HRz HFz
      obtain ⟨i, hi, rfl, HOr, HTr, HRr, HFr⟩ := hrel
      by_cases hlt : i < n + 3
      · have hki : (i : Int) < (n : Int) + 3 := by omega
        obtain ⟨z9, hz9⟩ := HOr.out
        have HZ9 := Lib.hid hz9
        obtain ⟨cur, hcur, hsz, hfin⟩ := own_one hz9 hlt
        have KC := Lib.hid hcur
        have HFI := Lib.hid hfin
        have HSZ := Lib.hid hsz
        obtain ⟨x, hx⟩ : ∃ x, z9 i = x := ⟨_, rfl⟩
        have cx : wr.cell? ⟨g, i, none⟩ = some (.int .u8 x) := by rw [← hx]; exact own8_at hz9 hlt
        have HXB : Hid (0 ≤ x ∧ x ≤ 255) := Lib.hid (by rw [← hx]; exact hz9.2 i)
        clear hz9 hcur hsz hfin hx
        go_wp2_with (refine wpList_st rfl 5 (.tmp 45) (.tmp 44) rfl g i rfl (.int .u8 (Go.bits .xor .u8 x 1)) #[.int .u8 (Go.bits .xor .u8 x 1)] rfl rfl info_u81 (one_u8v _) KC.out (by have := HSZ.out; simp; omega) (C' := putMany cur i [.int .u8 (Go.bits .xor .u8 x 1)]) rfl ?_; intro w9 q1; refine Hid.out ?_)
        refine Lib.hid ?_
        have HO9 : Hid (∃ z', Own8 w9 g (n + 3) cap z') := Lib.hid (HFI.out w9 _ (xor1P x HXB.out) q1.1)
        have hst9 := st_turn HTr.out.st HRr.out q1 KC.out
        have HT9 : Hid (TwoAt w9 B s m sr H2 k2 R2 r2) := Lib.hid ⟨hst9.1, rf_turn HTr.out.rf HRQz.out q1 KC.out, HTr.out.same, HTr.out.k5⟩
        have HR9 := Lib.hid hst9.2
        have HF9 : Hid (Fr2 w w9 s m sr) := Lib.hid (HFr.out.st q1 HGW.out)
        clear q1 hst9 cx KC HFI HSZ HZ9 HOr HTr HRr HFr
        go_wp2_with fail
        go_roundw
        case rel => exact ⟨i + 1, by omega, by go_num, HO9, HT9, HR9, HF9⟩
        case measure => simp only [intOf]; omega
      · obtain rfl : i = n + 3 := by omega
        have hxx : (x1 == x1) = true := by simp
        have hEE : (E1 == E1) = true := by simp
        go_wp2_with fail
        go_ret
        exact ⟨rfl, HFr.out, H2, k2, R2, r2, HTr.out, HLF.out⟩
end Go.Proofs.YtkiaijmhoikdiaaGreat

/- So many ticks go by for both stores alike: plain facts. Each theorem states its conditions. -/
namespace Go.Proofs.YtkiaijmhoikdiaaGreat
open Go.RowKit Go.MapKept
set_option linter.unusedVariables false
set_option linter.unusedSimpArgs false

theorem asc_ext : ∀ (S T : List IdI), S.Pairwise (fun x y => x.1 < y.1) → T.Pairwise (fun x y => x.1 < y.1) → (∀ x, x ∈ S ↔ x ∈ T) → S = T
  | [], [], _, _, _ => rfl
  | [], y :: T, _, _, h => absurd ((h y).2 (List.mem_cons_self ..)) (by simp)
  | x :: S, [], _, _, h => absurd ((h x).1 (List.mem_cons_self ..)) (by simp)
  | x :: S, y :: T, hs, ht, h => by
    obtain ⟨s1, s2⟩ := List.pairwise_cons.1 hs
    obtain ⟨t1, t2⟩ := List.pairwise_cons.1 ht
    have hxy : x = y := by
      rcases List.mem_cons.1 ((h x).1 (List.mem_cons_self ..)) with e | hx
      · exact e
      · rcases List.mem_cons.1 ((h y).2 (List.mem_cons_self ..)) with e | hy
        · exact e.symm
        · have a1 := t1 x hx
          have a2 := s1 y hy
          omega
    subst hxy
    congr 1
    refine asc_ext S T s2 t2 fun z => ⟨fun hz => ?_, fun hz => ?_⟩
    · rcases List.mem_cons.1 ((h z).1 (List.mem_cons_of_mem _ hz)) with rfl | hz'
      · have := s1 z hz; omega
      · exact hz'
    · rcases List.mem_cons.1 ((h z).2 (List.mem_cons_of_mem _ hz)) with rfl | hz'
      · have := t1 z hz; omega
      · exact hz'
section
variable {H : Nat → Option Hd} {R : List Rh} {t : Int}
theorem same_age (hs : SameHR H R) : SameHR (agedH H t) (keepR t R) := by
  obtain ⟨ha, hm⟩ := hs
  refine ⟨?_, fun i g => ?_⟩
  · unfold keepR AscR
    refine List.Pairwise.filter _ ?_
    rw [List.pairwise_map]
    exact ha.imp (fun h => h)
  · constructor
    · intro e
      unfold agedH at e
      cases e1 : H i with
      | none => rw [e1] at e; cases e
      | some h =>
        rw [e1] at e
        have e2 : (if 60 ≤ (ageH h t).pu then none else some (ageH h t)) = some g := e
        by_cases h60 : 60 ≤ (ageH h t).pu
        · rw [if_pos h60] at e2; cases e2
        · rw [if_neg h60] at e2
          obtain ⟨r, hr, rfl, hi⟩ := (hm i h).1 e1
          have e3 : ageH r.x.1 t = g := Option.some.inj e2
          refine ⟨agR t r, ?_, e3, by rw [← e3]; exact hi⟩
          unfold keepR
          refine List.mem_filter.2 ⟨List.mem_map.2 ⟨r, hr, rfl⟩, ?_⟩
          have : (agR t r).x.1.pu < 60 := by show (ageH r.x.1 t).pu < 60; omega
          simpa using this
    · rintro ⟨q, hq, e1, e2⟩
      have hp : q.x.1.pu < 60 := by
        have := (List.mem_filter.1 hq).2
        simpa using this
      obtain ⟨r, hr, rfl⟩ := keep_mem hq
      have e3 : H i = some r.x.1 := (hm i r.x.1).2 ⟨r, hr, rfl, by rw [← e1] at e2; exact e2⟩
      unfold agedH
      rw [e3]
      show (if 60 ≤ (ageH r.x.1 t).pu then none else some (ageH r.x.1 t)) = some g
      have hp2 : (ageH r.x.1 t).pu < 60 := hp
      rw [if_neg (by omega)]
      exact congrArg some e1
theorem out_same (hs : SameHR H R) {T : List IdI} (hT : T.Pairwise (fun x y => x.1 < y.1)) (hm : ∀ x : IdI, x ∈ T ↔ ∃ h, H x.1 = some h ∧ endB h t = true) : T = outR t R := by
  refine asc_ext _ _ hT ?_ fun x => ?_
  · unfold outR
    rw [List.pairwise_map]
    exact (List.Pairwise.filter _ hs.1).imp (fun h => h)
  · rw [hm]
    unfold outR
    rw [List.mem_map]
    constructor
    · rintro ⟨h, e1, e2⟩
      obtain ⟨r, hr, rfl, hi⟩ := (hs.2 x.1 h).1 e1
      exact ⟨r, List.mem_filter.2 ⟨hr, e2⟩, Subtype.ext hi⟩
    · rintro ⟨r, hr, e⟩
      obtain ⟨h1, h2⟩ := List.mem_filter.1 hr
      have e3 : r.x.1.id = x.1 := congrArg Subtype.val e
      exact ⟨r.x.1, (hs.2 x.1 r.x.1).2 ⟨r, h1, rfl, e3⟩, h2⟩
theorem keep_lt : (keepR t R).length < R.length ↔ ∃ r ∈ R, 60 ≤ (ageH r.x.1 t).pu := by
  unfold keepR
  have h1 : R.length = (R.map (agR t)).length := by rw [List.length_map]
  rw [h1]
  constructor
  · intro h
    have := Nat.lt_of_le_of_ne (List.length_filter_le _ _) (Nat.ne_of_lt h)
    have hn : ¬ ∀ r ∈ R.map (agR t), decide (r.x.1.pu < 60) = true := fun e => by
      rw [List.filter_eq_self.2 e] at h; omega
    have : ∃ r ∈ R.map (agR t), ¬ decide (r.x.1.pu < 60) = true := by
      refine Classical.byContradiction fun hc => hn fun r hr => ?_
      exact Classical.byContradiction fun he => hc ⟨r, hr, he⟩
    obtain ⟨q, hq, he⟩ := this
    obtain ⟨r, hr, rfl⟩ := List.mem_map.1 hq
    refine ⟨r, hr, ?_⟩
    have h0 : 60 ≤ (agR t r).x.1.pu := by simpa using he
    exact h0
  · rintro ⟨r, hr, he⟩
    refine Nat.lt_of_le_of_ne (List.length_filter_le _ _) fun e => ?_
    have := List.filter_eq_self.1 (List.Sublist.eq_of_length List.filter_sublist e) (agR t r) (List.mem_map.2 ⟨r, hr, rfl⟩)
    have h9 : (ageH r.x.1 t).pu < 60 := by
      have h8 : (agR t r).x.1.pu < 60 := by simpa using this
      exact h8
    omega
theorem flag_same (hs : SameHR H R) {r r' : Bool} (hr : RefL H t (fun _ => false) r r') : r' = if (keepR t R).length < R.length then false else r := by
  rcases hr with ⟨h1, h2⟩ | ⟨h1, i, h, h2, _, h3⟩
  · rw [if_neg, h1]
    intro e
    obtain ⟨q, hq, he⟩ := keep_lt.1 e
    have := h2 q.x.1.id q.x.1 ((hs.2 _ _).2 ⟨q, hq, rfl, rfl⟩) rfl
    omega
  · rw [if_pos, h1]
    obtain ⟨q, hq, rfl, _⟩ := (hs.2 i h).1 h2
    exact keep_lt.2 ⟨q, hq, h3⟩
theorem life_aged (hl : LifeH H) (ht : 0 ≤ t) : LifeH (agedH H t) := by
  intro i g e
  unfold agedH at e
  cases e1 : H i with
  | none => rw [e1] at e; cases e
  | some h =>
    rw [e1] at e
    have e2 : (if 60 ≤ (ageH h t).pu then none else some (ageH h t)) = some g := e
    by_cases h60 : 60 ≤ (ageH h t).pu
    · rw [if_pos h60] at e2; cases e2
    · rw [if_neg h60] at e2
      have e3 : ageH h t = g := Option.some.inj e2
      obtain ⟨⟨a1, a2⟩, a3, a4⟩ := hl i h e1
      have b1 : g.li = max (h.li - t) 0 := by rw [← e3]; rfl
      have b2 : g.pu = h.pu + max (t - h.li) 0 := by rw [← e3]; rfl
      have b3 : (ageH h t).pu = g.pu := by rw [e3]
      omega
theorem life_drop {n : Nat} (hl : LifeH H) : LifeH (setH H n none) := fun i g e => by
  unfold setH at e
  split at e
  · cases e
  · exact hl i g e
theorem life_rows (hs : SameHR H R) (hl : LifeH H) : ∀ r ∈ R, (0 ≤ r.x.1.li ∧ r.x.1.li ≤ 65535) ∧ (0 ≤ r.x.1.pu ∧ r.x.1.pu < 60) := fun r hr => hl r.x.1.id r.x.1 ((hs.2 _ _).2 ⟨r, hr, rfl, rfl⟩)
end
theorem RfAt.kpx {w w' : World} {B sr : Nat} {R : List Rh} {rf : Bool} (h : RfAt w B sr R rf) (hk : ∀ (x : Nat) (o : Obj), w.heap[x]? = some o → mineS o = false → w'.heap[x]? = some o) : RfAt w' B sr R rf := by
  obtain ⟨h1, h2, v, h3, h4⟩ := h
  refine ⟨h1, fun q hq => ⟨⟨?_, (h2 q hq).1.2⟩, (h2 q hq).2⟩, v, Blk.kpx h3 hk (by decide), ?_⟩
  · have h0 := (h2 q hq).1.1
    have h9 := h0
    obtain ⟨⟨cur, e, _⟩, _⟩ := h9
    exact Own8.block h0 ((hk _ _ e (by simp only [mineS]; decide)).trans e.symm)
  · rcases h4 with ⟨o1, o2 | ⟨g9, cap9, cur9, o2, o3, o4, rest⟩⟩
    · exact ⟨o1, .inl o2⟩
    · exact ⟨o1, .inr ⟨g9, cap9, cur9, o2, o3, (hk _ _ o4 (by simp only [mineS]; decide)), rest⟩⟩
end Go.Proofs.YtkiaijmhoikdiaaGreat

/- The document's List. Each theorem states its conditions. -/
namespace Go.Proofs.YtkiaijmhoikdiaaGreat
open Go.RowKit Go.MapKept
set_option linter.unusedVariables false
set_option linter.unusedSimpArgs false

def inP (a b : Nat) (x : HdI) : Bool := !decide (x.1.id < a) && !decide (b < x.1.id)
def lstR (a b : Nat) (R : List Rh) : List HdI := (R.map (·.x)).filter (inP a b)
theorem lst_step {R : List Rh} {j a b : Nat} {r : Rh} (hx : R[j]? = some r) : lstR a b (R.take (j + 1)) = if inP a b r.x then lstR a b (R.take j) ++ [r.x] else lstR a b (R.take j) := by
  unfold lstR
  rw [take_snoc hx, List.map_append, List.filter_append]
  by_cases e : inP a b r.x = true
  · rw [if_pos e]; simp [e]
  · rw [if_neg e]; simp [e]
theorem lst_len {R : List Rh} {a b : Nat} : (lstR a b R).length ≤ R.length := by
  unfold lstR
  exact Nat.le_trans (List.length_filter_le _ _) (by rw [List.length_map]; exact Nat.le_refl _)
theorem lst_inRg {H : Nat → Option Hd} {R : List Rh} {a b : Nat} {T : List HdI} (hs : SameHR H R) (hb : b ≤ mxI) (hT : InRg H a b T) : T = lstR a b R := by
  have h := inRg_filter (same_inRg hs) hT (Nat.zero_le _) hb
  rw [h]
  unfold lstR
  refine congrArg (fun p => List.filter p (R.map (·.x))) ?_
  funext x
  unfold inP
  by_cases h1 : x.1.id < a <;> by_cases h2 : b < x.1.id <;> simp [h1, h2] <;> omega
theorem rh_idr {w : World} {b off : Nat} {r : Rh} (h : w.rangeAt b off (rhC r).toList) : w.rangeAt b off (iC r.x.1.id).toList := by
  intro j u hu
  have h8 : j < 8 := by
    have := (List.getElem?_eq_some_iff.1 hu).1
    exact this
  refine h j u ?_
  have e : (rhC r).toList[j]? = (iC r.x.1.id).toList[j]? := by
    rcases (by omega : j = 0 ∨ j = 1 ∨ j = 2 ∨ j = 3 ∨ j = 4 ∨ j = 5 ∨ j = 6 ∨ j = 7) with rfl | rfl | rfl | rfl | rfl | rfl | rfl | rfl <;> rfl
  rw [e]; exact hu
def RLstP (a b : Nat) (R : List Rh) (w : World) (e : Ending) (w' : World) : Prop := ∃ v, e = .returned v ∧ OwnR w' w.heap.size 58 11 v (lstR a b R).length (enB (lstR a b R)) ∧ Below w.heap.size w w'
set_option maxHeartbeats 16000000 in
set_option maxRecDepth 100000 in
theorem listR_any (B sr nf nt : Nat) (R : List Rh) (rf : Bool) (w : World) (hst : RfAt w B sr R rf) (hl : R.length ≤ 600) (hf : IdOk nf) (ht : IdOk nt) : Calls Tryz.prog 42 #[.pointer (some ⟨sr, 0, none⟩), .agg (iC nf), .agg (iC nt)] w (RLstP nf nt R w) := by
  obtain ⟨A, c, hs, hc1, hc2, hrd, _⟩ := hst.open
  have KS := Lib.hid hs
  have HRD := Lib.hid hrd
  have HF := Lib.hid hf
  have HT := Lib.hid ht
  obtain ⟨m, hm⟩ : ∃ m, R.length = m := ⟨_, rfl⟩
  have HM := Lib.hid hm
  rw [hm] at HRD KS
  have hm6 : m ≤ 600 := by omega
  have hmI : (m : Int) ≤ 9223372036854775807 := by omega
  clear hst hs hrd hm hc1 hc2 hl hf ht
  go_enter Tryz.func42, Tryz.ntmps42
  have HB := Lib.hid (Below.refl w.heap.size w)
  obtain ⟨N1, hN1⟩ : ∃ N, w.heap.size = N := ⟨_, rfl⟩
  have HN1 := Lib.hid hN1
  clear hN1
  go_wp2_with (refine wpList_box (op := ⟨some 4, _, _, _, _, _⟩) rfl 35 (.tmp 1) rfl (iC nf) rfl N1 HN1.out ?_; intro w1 k1 b1 s1; refine Hid.out ?_)
  refine Lib.hid ?_
  have K4 := Lib.hid k1
  clear k1
  have lt_sr_N1 : sr < N1 := by rw [← HN1.out]; exact KS.out.lt
  have le_HB_N1 : w.heap.size ≤ N1 := by rw [← HN1.out]; exact HB.out.size
  replace KS := Lib.hid (KS.out.below b1 KS.out.lt)
  replace HB := Lib.hid (HB.out.trans (b1.mono HB.out.size))
  clear b1 HN1
  obtain ⟨N2, hN2⟩ : ∃ N, w1.heap.size = N := ⟨_, rfl⟩
  have HN2 := Lib.hid hN2
  clear hN2
  go_wp2_with (refine wpList_box (op := ⟨some 5, _, _, _, _, _⟩) rfl 35 (.tmp 2) rfl (iC nt) rfl N2 HN2.out ?_; intro w2 k1 b1 s1; refine Hid.out ?_)
  refine Lib.hid ?_
  have K5 := Lib.hid k1
  clear k1
  have lt_sr_N2 : sr < N2 := by rw [← HN2.out]; exact KS.out.lt
  have lt_N1_N2 : N1 < N2 := by rw [← HN2.out]; exact K4.out.lt
  have le_HB_N2 : w.heap.size ≤ N2 := by rw [← HN2.out]; exact HB.out.size
  replace KS := Lib.hid (KS.out.below b1 KS.out.lt)
  replace K4 := Lib.hid (K4.out.below b1 K4.out.lt)
  replace HB := Lib.hid (HB.out.trans (b1.mono HB.out.size))
  clear b1 HN2
  go_wp2_with fail
  obtain ⟨BL, hBL⟩ : ∃ N, w2.heap.size = N := ⟨_, rfl⟩
  have HBL := Lib.hid hBL
  have le_BL : w.heap.size ≤ BL := by rw [← hBL]; exact HB.out.size
  clear hBL
  go_loopw [7, 8] (fun v i wr => ∃ j : Nat, j ≤ m ∧ i = .int .i64 j ∧ Hid (OwnR wr BL 58 11 v (lstR nf nt (R.take j)).length (enB (lstR nf nt (R.take j)))) ∧ Hid (Below BL w2 wr)) (fun _ i _ => m - (intOf i).toNat)
  case atStart => exact ⟨0, by omega, rfl, Lib.hid (OwnR.nil _ _ _ _ _), Lib.hid (Below.refl _ _)⟩
  case round =>
    obtain ⟨j, hj, rfl, HO, HQ⟩ := hrel
    have KSw := Lib.hid (KS.out.below HQ.out (by rw [← HBL.out]; exact KS.out.lt))
    have c0 : wr.cell? ⟨sr, 0, none⟩ = some (.slice A m c) := (KSw.out.cell 0).trans rfl
    by_cases hlt : j < m
    · have hki : (j : Int) < (m : Int) := by omega
      obtain ⟨bA, off, rfl, hr⟩ := HRD.out.row (by omega)
      obtain ⟨r, hx⟩ : ∃ r, R[j]? = some r := ⟨_, List.getElem?_eq_getElem (by rw [HM.out]; exact hlt)⟩
      have HRG : Hid (∀ W, Below BL w2 W → W.rangeAt bA (off + j * 13) (rhC r).toList) := Lib.hid (fun W hb => by have h9 := rangeAt_below (rangeAt_below (hr.2 j hlt) HB.out hr.1) hb (by have := hr.1; omega); rw [rhA_at R j r hx] at h9; exact h9)
      have HSTP := Lib.hid (lst_step (a := nf) (b := nt) hx)
      obtain ⟨SE, hSE⟩ : ∃ S, lstR nf nt (R.take j) = S := ⟨_, rfl⟩
      rw [hSE] at HO HSTP
      have HSL : Hid (SE.length ≤ 600) := Lib.hid (by rw [← hSE]; have h1 := lst_len (R := R.take j) (a := nf) (b := nt); rw [List.length_take] at h1; omega)
      clear hr hx hSE
      have h1 : Hid (wr.rangeAt bA (off + j * 13) (iC r.x.1.id).toList) := Lib.hid (rh_idr (HRG.out wr HQ.out))
      go_wp2_with (refine wpList_ld (op := ⟨some 30, _, _, _, _, _⟩) (by rfl) 35 (.tmp 29) rfl bA (off + j * 13) rfl (iC r.x.1.id) _ h1.out Tryz.underlying35 rfl info_iC ?_; refine Hid.out ?_)
      refine Lib.hid ?_
      clear h1 c0
      obtain ⟨N9, hN9⟩ : ∃ N, wr.heap.size = N := ⟨_, rfl⟩
      have HN9 := Lib.hid hN9
      clear hN9
      go_wp2_with (refine wpList_new (op := ⟨some 9, _, _, _, _, _⟩) rfl 35 rfl (iC 0) zero_idS N9 HN9.out ?_; intro w5 k1 b1 s9; refine Hid.out ?_)
      refine Lib.hid ?_
      have K9 := Lib.hid k1
      have HB1 := Lib.hid b1
      clear k1 b1 s9
      go_wp2_with (refine wpList_st rfl 35 (.tmp 9) (.tmp 30) rfl N9 0 rfl (.agg (iC r.x.1.id)) (iC r.x.1.id) rfl rfl info_iC (idC_one _) K9.out (Nat.le_of_ble_eq_true rfl) (C' := iC r.x.1.id) (id_over _ _) ?_; intro w6 q1; refine Hid.out ?_)
      refine Lib.hid ?_
      have b1 : Below wr.heap.size wr w6 := HB1.out.trans (q1.2.1 _ (by rw [HN9.out]; exact Nat.le_refl _))
      replace K9 : Hid (Blk 35 w6 N9 (iC r.x.1.id)) := Lib.hid q1.1
      clear q1 HB1 HN9 KSw
      replace HO := Lib.hid (HO.out.below b1)
      replace HQ := Lib.hid (HQ.out.trans (b1.mono (by have := HQ.out.size; rw [HBL.out] at this; exact this)))
      clear b1
      have K4w := Lib.hid (K4.out.below HQ.out (by rw [← HBL.out]; exact K4.out.lt))
      have K5w := Lib.hid (K5.out.below HQ.out (by rw [← HBL.out]; exact K5.out.lt))
      go_wp2_with (refine wpList_ld (op := ⟨some 31, _, _, _, _, _⟩) (by rfl) 35 (.tmp 9) rfl N9 0 rfl (iC r.x.1.id) _ K9.out.all Tryz.underlying35 rfl info_iC ?_; refine Hid.out ?_)
      refine Lib.hid ?_
      go_wp2_with (refine wpList_ld (op := ⟨some 32, _, _, _, _, _⟩) (by rfl) 35 (.tmp 4) rfl N1 0 rfl (iC nf) _ K4w.out.all Tryz.underlying35 rfl info_iC ?_; refine Hid.out ?_)
      refine Lib.hid ?_
      go_wp2_with fail
      refine (less_any r.x.1.id nf w6 r.x.2 HF.out).mono ?_
      rintro e w7 ⟨rfl, b1⟩
      replace HO := Lib.hid (HO.out.below b1)
      replace HQ := Lib.hid (HQ.out.trans (b1.mono (by have := HQ.out.size; rw [HBL.out] at this; exact this)))
      replace K9 := Lib.hid (K9.out.below b1 K9.out.lt)
      have K5v := Lib.hid (K5w.out.below b1 K5w.out.lt)
      clear b1 K4w K5w
      obtain ⟨d1, hd1⟩ : ∃ d, decide (r.x.1.id < nf) = d := ⟨_, rfl⟩
      rw [hd1]
      have HD1 := Lib.hid hd1
      clear hd1
      cases d1 with
      | false =>
        go_wp2_with (refine wpList_ld (op := ⟨some 36, _, _, _, _, _⟩) (by rfl) 35 (.tmp 5) rfl N2 0 rfl (iC nt) _ K5v.out.all Tryz.underlying35 rfl info_iC ?_; refine Hid.out ?_)
        refine Lib.hid ?_
        go_wp2_with (refine wpList_ld (op := ⟨some 37, _, _, _, _, _⟩) (by rfl) 35 (.tmp 9) rfl N9 0 rfl (iC r.x.1.id) _ K9.out.all Tryz.underlying35 rfl info_iC ?_; refine Hid.out ?_)
        refine Lib.hid ?_
        go_wp2_with fail
        refine (less_any nt r.x.1.id w7 HT.out r.x.2).mono ?_
        rintro e w8 ⟨rfl, b1⟩
        replace HO := Lib.hid (HO.out.below b1)
        replace HQ := Lib.hid (HQ.out.trans (b1.mono (by have := HQ.out.size; rw [HBL.out] at this; exact this)))
        replace K9 := Lib.hid (K9.out.below b1 K9.out.lt)
        clear b1 K5v K9
        obtain ⟨d2, hd2⟩ : ∃ d, decide (nt < r.x.1.id) = d := ⟨_, rfl⟩
        rw [hd2]
        have HD2 := Lib.hid hd2
        clear hd2
        cases d2 with
        | false =>
          have KSv := Lib.hid (KS.out.below HQ.out (by rw [← HBL.out]; exact KS.out.lt))
          have c0 : w8.cell? ⟨sr, 0, none⟩ = some (.slice (some ⟨bA, off, none⟩) m c) := (KSv.out.cell 0).trans rfl
          have h1 := Lib.hid (HRG.out w8 HQ.out)
          go_wp2_with (refine wpList_ld (op := ⟨some 48, _, _, _, _, _⟩) (by rfl) 95 (.tmp 47) rfl bA (off + j * 13) rfl (rhC r) _ h1.out Tryz.underlying95 rfl info_rh ?_; refine Hid.out ?_)
          refine Lib.hid ?_
          clear h1 c0 KSv
          go_wp2_with fail
          refine (entryR_any r w8).mono ?_
          rintro e w9 ⟨rfl, b1⟩
          replace HO := Lib.hid (HO.out.below b1)
          replace HQ := Lib.hid (HQ.out.trans (b1.mono (by have := HQ.out.size; rw [HBL.out] at this; exact this)))
          clear b1
          obtain ⟨N74, hN74⟩ : ∃ N, w9.heap.size = N := ⟨_, rfl⟩
          have HN74 := Lib.hid hN74
          clear hN74
          go_wp2_with (refine wpList_bsn (op := ⟨some 50, _, _, _, _, _⟩) 1 rfl 58 (enC (hdE r.x.1)) (bs_en1 _ _ _ rfl r.x.1 rfl) N74 HN74.out ?_; intro wa k1 b1 s1; refine Hid.out ?_)
          refine Lib.hid ?_
          have HRR : Hid (RdR wa (some ⟨N74, 0, none⟩) 1 11 (fun _ => enC (hdE r.x.1))) := Lib.hid (rdR_blk k1)
          clear k1 s1
          replace HO := Lib.hid (HO.out.below b1)
          replace HQ := Lib.hid (HQ.out.trans (b1.mono (by have := HQ.out.size; rw [HBL.out] at this; exact this)))
          clear b1 HN74
          have hml : maxLen = 9223372036854775807 := rfl
          have HML := Lib.hid hml
          clear hml
          have HBZ : Hid (BL ≤ wa.heap.size) := Lib.hid (by have := HQ.out.size; rw [HBL.out] at this; exact this)
          go_wp2_with (at_builtin; refine app_Y 67 58 11 32 _ Tryz.underlying67 infoA_en rfl (by decide) rfl (.tmp 41) (.tmp 50) rfl BL _ SE.length (enB SE) rfl HO.out HBZ.out ⟨N74, 0, none⟩ 1 1 (fun _ => enC (hdE r.x.1)) rfl HRR.out (fun _ => ⟨rfl, enC_ones _⟩) (by have := HSL.out; rw [HML.out]; omega) (by have := HSL.out; omega) ?_; intro v10 w10 ho9 hg9 hk9; refine Hid.out ?_)
          refine Lib.hid ?_
          have HO9 : Hid (OwnR w10 BL 58 11 v10 (lstR nf nt (R.take (j + 1))).length (enB (lstR nf nt (R.take (j + 1))))) := Lib.hid (by rw [HSTP.out, if_pos (by unfold inP; simp [HD1.out, HD2.out]), List.length_append]; exact OwnR.congr ho9 (fun j hj => en_snoc SE r.x j hj))
          replace HQ : Hid (Below BL w2 w10) := Lib.hid (HQ.out.grown hg9 HBZ.out (fun k e => hk9 k e))
          clear ho9 hg9 hk9 HO HRR
          go_wp2_with fail
          go_roundw
          case rel => exact ⟨j + 1, by omega, by go_num, HO9, HQ⟩
          case measure => simp only [intOf]; omega
        | true =>
          have HO9 : Hid (OwnR _ BL 58 11 _ (lstR nf nt (R.take (j + 1))).length (enB (lstR nf nt (R.take (j + 1))))) := Lib.hid (by rw [HSTP.out, if_neg (by unfold inP; simp [HD2.out])]; exact HO.out)
          go_wp2_with fail
          go_roundw
          case rel => exact ⟨j + 1, by omega, by go_num, HO9, HQ⟩
          case measure => simp only [intOf]; omega
      | true =>
        have HO9 : Hid (OwnR _ BL 58 11 _ (lstR nf nt (R.take (j + 1))).length (enB (lstR nf nt (R.take (j + 1))))) := Lib.hid (by rw [HSTP.out, if_neg (by unfold inP; simp [HD1.out])]; exact HO.out)
        go_wp2_with fail
        go_roundw
        case rel => exact ⟨j + 1, by omega, by go_num, HO9, HQ⟩
        case measure => simp only [intOf]; omega
    · obtain rfl : m = j := by omega
      have hT : R.take m = R := List.take_of_length_le (by rw [HM.out]; exact Nat.le_refl _)
      rw [hT] at HO
      clear hT
      go_wp2_with fail
      go_ret
      exact ⟨_, rfl, HO.out.mono le_BL, HB.out.trans (HQ.out.mono le_BL)⟩
end Go.Proofs.YtkiaijmhoikdiaaGreat
