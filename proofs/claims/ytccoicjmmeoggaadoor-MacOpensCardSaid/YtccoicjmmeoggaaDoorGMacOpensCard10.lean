/- Texts of this claim put together; each theorem states its conditions. -/
import Derived.Test.YtccoicjmmeoggaaDoorGMacOpensCard9
import Derived.Test.YtccoicjmmeoggaaDoorGMacOpensCard6
/- The document's DocRead: what it answers, for all bytes. Each theorem states its conditions. -/
namespace Go.Proofs.YtccoicjmmeoggaaDoor
open Go.RowKit
set_option linter.unusedVariables false

set_option maxHeartbeats 40000000 in
set_option maxRecDepth 100000 in
theorem dr_main (b off n c : Nat) (z : Nat → Int) (w : World) (hr : Row8 w b off n z) (hc : n ≤ c) (hcm : c ≤ maxLen) (hn2 : n ≤ 1492) (h8 : 8 ≤ n) (q : Nat) (hk : cls (z 4) = q) (hq : q ≤ 4) (hh : hdN q ≤ n) (m : Nat) (hm : Ends (tlZ q z) (n - hdN q) m) :
    Calls Tryd.prog 48 #[.slice (some ⟨b, off, none⟩) n c] w (DrP w q z n m) := by
  obtain ⟨W1, hW1⟩ : ∃ W1, w.alloc (.cells (pdC pd0) 42) = W1 := ⟨_, rfl⟩
  obtain ⟨X, hX⟩ : ∃ X, w.heap.size = X := ⟨_, rfl⟩
  have HX1 : Hid (PdT 42 W1 X pd0) := Lib.hid (by rw [← hW1, ← hX]; exact heap_alloc_new w _)
  have HB1 : Hid (Below w.heap.size w W1) := Lib.hid (by rw [← hW1]; exact (bself w).alloc (Nat.le_refl _) _)
  have HW1 := Lib.hid hW1
  have HXW := Lib.hid hX
  have hXle : w.heap.size ≤ X := by omega
  have fl1 : decide ((1492 : Int) < (n : Int)) = false := by simp; omega
  clear hW1 hX
  have hcm2 : c ≤ 9223372036854775807 := by unfold maxLen at hcm; omega
  have fl8 : decide ((n : Int) < 8) = false := by simp; omega
  have c4 : W1.cell? ⟨b, off + 4, none⟩ = some (.int .u8 (z 4)) := by rw [← hr.2.1 4 (by omega)]; exact HB1.out.cell hr.1
  have HH := Lib.hid (refHead_any (z 4) q hk hq)
  have h4n : (4 : Int) < (n : Int) := by omega
  have h17 := hdN_bd q hq
  have HM := Lib.hid hm
  have hbw : b < w.heap.size := hr.1
  have HR1 : Hid (Row8 W1 b off n z) := Lib.hid (row_keep hr (HB1.out.block _ hr.1))
  have HKQ := Lib.hid (And.intro hk hq)
  obtain ⟨H, hH⟩ : ∃ H, hdN q = H := ⟨_, rfl⟩
  have HHQ := Lib.hid hH
  rw [hH] at HH hh h17 HM
  have fH : ((H : Int) == 0) = false := by simp; omega
  have fl9 : decide ((n : Int) < (H : Int)) = false := by simp; omega
  obtain ⟨P, hP⟩ : ∃ P, W1.heap.size = P := ⟨_, rfl⟩
  obtain ⟨W2, hW2⟩ : ∃ W2, W1.alloc (.cells (pdC pd0) 42) = W2 := ⟨_, rfl⟩
  have HM2 : Hid (PdT 42 W2 P pd0) := Lib.hid (by rw [← hW2, ← hP]; exact heap_alloc_new W1 _)
  have HB2 : Hid (Below P W1 W2) := Lib.hid (by rw [← hW2, ← hP]; exact (bself W1).alloc (Nat.le_refl _) _)
  have HP := Lib.hid hP
  have HW2 := Lib.hid hW2
  have hXP : X < P := by rw [← hP]; exact HX1.out.lt
  have hpz : W2.heap.size = P + 1 := by rw [← hW2, ← hP]; simp
  clear hr hk hH hm hq hP hW2
  go_enter Tryd.func48, Tryd.ntmps48
  go_wp2_with (refine wpList_v (op := ⟨some 2, _, _, _, _, _⟩) rfl _ (alloc_R' _ _ rfl w W1 X HXW.out HW1.out) ?_)
  refine (HH.out _).mono ?_
  rintro e wx ⟨rfl, rfl⟩
  go_wp2_with fail
  refine (HH.out _).mono ?_
  rintro e wx ⟨rfl, rfl⟩
  go_wp2_with (first
    | (refine wpList_v (op := ⟨some 36, _, _, _, _, _⟩) rfl _ (build_1d _ _ (.tmp 35) rfl (z 4) rfl _) ?_)
    | (refine wpList_v (op := ⟨some 4, _, _, _, _, _⟩) rfl _ (alloc_R' _ _ rfl W1 W2 P HP.out HW2.out) ?_)
    | (refine wpList_st rfl 42 (.tmp 4) (.tmp 36) rfl P 0 rfl (.agg (pdC (kdP (z 4)))) (pdC (kdP (z 4))) rfl rfl info_pdR (pdC_one _) HM2.out (Nat.le_of_ble_eq_true rfl) (pd_all _ _) ?_; intro w3 hst3; refine Hid.out ?_))
  refine Lib.hid ?_
  have hb13 : Below P W1 w3 := HB2.out.trans (hst3.2.1 P (Nat.le_refl _))
  have HD3 : Hid (PdT 42 w3 P (kdP (z 4))) := Lib.hid hst3.1
  have HX3 : Hid (PdT 42 w3 X pd0) := Lib.hid ((hb13.block _ hXP).trans HX1.out)
  have HR3 : Hid (Row8 w3 b off n z) := Lib.hid (row_keep HR1.out (hb13.block _ (by omega)))
  have HB3 : Hid (Below w.heap.size w w3) := Lib.hid (HB1.out.trans (hb13.mono (by omega)))
  have hP3 : P < w3.heap.size := HD3.out.lt
  have c0 : w3.cell? ⟨P, 0, none⟩ = some (.int .u8 (z 4)) := (HD3.out.cell 0).trans (pdC_0 _)
  clear hst3 hb13 HM2 HB2 HX1 HR1 HB1 c4 HW2 HP HW1 HXW
  go_wp2_with fail
  refine (HH.out _).mono ?_
  rintro e wx ⟨rfl, rfl⟩
  obtain ⟨AS, hAS⟩ : ∃ AS, (if c = H then some ⟨b, off, none⟩ else some ⟨b, off + H, none⟩ : Option Addr) = AS := ⟨_, rfl⟩
  have HSL := Lib.hid (run_from w3 b off n c H hh hc hcm2)
  have HRS : Hid (Rd w3 AS (n - H) (tlZ q z)) := Lib.hid (by rw [← hAS]; unfold tlZ; rw [HHQ.out]; exact rd_from HR3.out hh hc)
  have hASn : AS ≠ none := by rw [← hAS]; split <;> simp
  rw [hAS] at HSL
  clear hAS
  go_wp2_with (refine wpList_v (op := ⟨some 42, _, _, _, _, _⟩) rfl _ (slice_op _ _ (.tmp 38) (.tmp 41) rfl _ _ rfl rfl _ HSL.out) ?_)
  refine (docsplit_any AS (n - H) (c - H) m (tlZ q z) w3 HRS.out (fun h => absurd h hASn) (by omega) (by omega) (by omega) HM.out).mono ?_
  rintro e w4 (⟨hps, v4, L, rfl, hoT, hI, hb⟩ | ⟨hps, rfl, hb⟩)
  rotate_left
  · have HX4 := Lib.hid (HX3.out.below hb HX3.out.lt)
    have HB4 := Lib.hid (HB3.out.trans (hb.mono HB3.out.size))
    have HPS := Lib.hid hps
    clear hb hps HX3 HB3 HD3 HR3 c0
    go_wp2_with (first
      | (refine wpList_v (op := ⟨some 48, _, _, _, _, _⟩) rfl _ (build_0d _ _ rfl _) ?_)
      | (refine wpList_st rfl 42 (.tmp 2) (.tmp 48) rfl X 0 rfl (.agg (pdC pd0)) (pdC pd0) rfl rfl info_pdR (pdC_one _) HX4.out (Nat.le_of_ble_eq_true rfl) (pd_all _ _) ?_; intro w2 hst2; refine Hid.out ?_))
    refine Lib.hid ?_
    have HX2 : Hid (PdT 42 w2 X pd0) := Lib.hid hst2.1
    have HB2 : Hid (Below w.heap.size w w2) := Lib.hid (HB4.out.trans (hst2.2.1 _ hXle))
    clear hst2
    go_wp2_with fail
    refine bodyPost_ret (results_dr rfl _ w2 X pd0 (.int .i64 3) rfl HX2.out rfl) rfl (.inl ⟨fun h => HPS.out (by rw [← HHQ.out]; exact h.1), rfl, HB2.out⟩)
  obtain ⟨A, cL, rfl, hmc, hcL, hAn, hRT⟩ := hoT.shape
  have HD4 : Hid (DrS w P X b off n z w3.heap.size A m cL L (kdP (z 4)) w4) := Lib.hid ⟨HD3.out.below hb HD3.out.lt, HX3.out.below hb HX3.out.lt, row_keep HR3.out (hb.block _ HR3.out.1), HB3.out.trans (hb.mono HB3.out.size), hoT, hXP, hXle, hbw, hP3, hb.size⟩
  obtain ⟨B, hB⟩ : ∃ B, w3.heap.size = B := ⟨_, rfl⟩
  rw [hB] at HD4
  have HPS := Lib.hid hps
  have HI := Lib.hid hI
  have HAN := Lib.hid (And.intro hAn (And.intro hmc hcL))
  have HWB : w.heap.size ≤ B := by rw [← hB]; exact HB3.out.size
  clear hb hps hI hAn hmc hcL hoT hRT HD3 HX3 HR3 HB3 c0 hP3 HRS HSL hB
  have f30 : ((0 : Int) != 0) = false := rfl
  go_wp2_with (refine wpList_st rfl 40 (.tmp 50) (.tmp 49) rfl P 46 rfl (.slice A m cL) #[.slice A m cL] rfl rfl (by kernel_rfl) (by kernel_rfl) HD4.out.1 (Nat.le_of_ble_eq_true rfl) (C' := pdC (withT (kdP (z 4)) A m cL)) (by kernel_rfl) ?_; intro wq hst5; refine Hid.out ?_)
  refine Lib.hid ?_
  have HD := Lib.hid (HD4.out.put hst5)
  clear hst5 HD4
  have c0 : wq.cell? ⟨P, 0, none⟩ = some (.int .u8 (z 4)) := (HD.out.1.cell 0).trans (pdC_0 _)
  go_upto_block 0 with fail
  go_cut [] (fun wc => Hid (DrS w P X b off n z B A m cL L (swP q z A m cL) wc))
  case first =>
    clear c0 HH HM HI HPS HAN fl1 fl8 fl9 fH f30
    obtain ⟨hk, hq⟩ := HKQ.out
    have hhq := HHQ.out
    clear HKQ HHQ
    rcases cls_cases (z 4) q hk hq with ⟨hk4, rfl⟩ | ⟨hk4, rfl⟩ | ⟨hk4, rfl⟩ | ⟨hk4, rfl⟩ | ⟨hk4, rfl⟩ | ⟨hk4, rfl⟩ | ⟨hk4, rfl⟩ | ⟨hk4, rfl⟩ | ⟨hk4, rfl⟩
    · as_aux_lemma =>
      clear hk hq
      have f15 : (z 4 == 15) = false := by rw [hk4]; rfl
      have f16 : (z 4 == 16) = false := by rw [hk4]; rfl
      have f17 : (z 4 == 17) = true := by rw [hk4]; rfl
      have f18 : (z 4 == 18) = false := by rw [hk4]; rfl
      have f20 : (z 4 == 20) = false := by rw [hk4]; rfl
      have f24 : (z 4 == 24) = false := by rw [hk4]; rfl
      have f25 : (z 4 == 25) = false := by rw [hk4]; rfl
      clear hk4
      have hHn : 20 ≤ n := by have : hdN 0 = 20 := rfl; omega
      clear hhq hh h17
      go_wp2_with fail
      have HDd := Lib.hid (HD.out.below (bself wq).drew)
      refine wp_region_held_drew (S := fun w' => Row8 w' b off n z) (by kernel_rfl) HDd.out.2.2.1 (fun hS => ?_)
      generalize hWq : wq.drew = Wq at hS HDd ⊢
      clear hWq HD
      have HD := HDd
      clear HDd
      refine takeY (i := 0) (some 78) (v := .slice (some ⟨b, off, none⟩) n c) rfl rfl (by kernel_rfl) (by kernel_rfl) (by kernel_rfl) (fun _ _ _ h => h) (by rfl) (fun w' hS => by go_simp) hS ?_
      simp only [Act.put, List.setIfInBounds_toArray, List.set_cons_zero, List.set_cons_succ]
      refine takeY (i := 1) (some 79) (v := .pointer (some ⟨b, off + 8, none⟩)) rfl rfl (by kernel_rfl) (by kernel_rfl) (by kernel_rfl) (fun _ _ _ h => h) (by rfl) (fun w' hS => by (have hx : (8 : Int) < (n : Int) := (by omega); clear hS; go_simp)) hS ?_
      simp only [Act.put, List.setIfInBounds_toArray, List.set_cons_zero, List.set_cons_succ]
      refine takeY (i := 2) (some 80) (v := .int .u8 (z 8)) rfl rfl (by kernel_rfl) (by kernel_rfl) (by kernel_rfl) (fun _ _ _ h => h) (by rfl) (fun w' hS => by (have c9 : w'.cell? ⟨b, off + 8, none⟩ = some (.int .u8 (z 8))   := (hS.2.1 8 (by omega)); clear hS; go_simp)) hS ?_
      simp only [Act.put, List.setIfInBounds_toArray, List.set_cons_zero, List.set_cons_succ]
      refine takeY (i := 3) (some 81) (v := .slice (some ⟨b, off, none⟩) n c) rfl rfl (by kernel_rfl) (by kernel_rfl) (by kernel_rfl) (fun _ _ _ h => h) (by rfl) (fun w' hS => by go_simp) hS ?_
      simp only [Act.put, List.setIfInBounds_toArray, List.set_cons_zero, List.set_cons_succ]
      refine takeY (i := 4) (some 82) (v := .slice (some ⟨b, off + 15, none⟩) (n - 15) (c - 15)) rfl rfl (by kernel_rfl) (by kernel_rfl) (by kernel_rfl) (fun _ _ _ h => h) (by rfl) (fun w' hS => by exact slice_in _ _ _ (.tmp 81) b off n c 15 15 rfl rfl rfl rfl (by omega) hc (by omega)) hS ?_
      simp only [Act.put, List.setIfInBounds_toArray, List.set_cons_zero, List.set_cons_succ]
      refine takeY (i := 6) (some 84) (v := .slice (some ⟨b, off, none⟩) n c) rfl rfl (by kernel_rfl) (by kernel_rfl) (by kernel_rfl) (fun _ _ _ h => h) (by rfl) (fun w' hS => by go_simp) hS ?_
      simp only [Act.put, List.setIfInBounds_toArray, List.set_cons_zero, List.set_cons_succ]
      refine takeY (i := 7) (some 85) (v := .pointer (some ⟨b, off + 19, none⟩)) rfl rfl (by kernel_rfl) (by kernel_rfl) (by kernel_rfl) (fun _ _ _ h => h) (by rfl) (fun w' hS => by (have hx : (19 : Int) < (n : Int) := (by omega); clear hS; go_simp)) hS ?_
      simp only [Act.put, List.setIfInBounds_toArray, List.set_cons_zero, List.set_cons_succ]
      refine takeY (i := 8) (some 86) (v := .int .u8 (z 19)) rfl rfl (by kernel_rfl) (by kernel_rfl) (by kernel_rfl) (fun _ _ _ h => h) (by rfl) (fun w' hS => by (have c9 : w'.cell? ⟨b, off + 19, none⟩ = some (.int .u8 (z 19))   := (hS.2.1 19 (by omega)); clear hS; go_simp)) hS ?_
      simp only [Act.put, List.setIfInBounds_toArray, List.set_cons_zero, List.set_cons_succ]
      refine takeY (i := 9) (some 87) (v := .pointer (some ⟨P, 1, none⟩)) rfl rfl (by kernel_rfl) (by kernel_rfl) (by kernel_rfl) (fun _ _ _ h => h) (by rfl) (fun w' hS => by go_simp) hS ?_
      simp only [Act.put, List.setIfInBounds_toArray, List.set_cons_zero, List.set_cons_succ]
      refine takeC (i := 5) (some 83) 77 #[.slice (some ⟨b, off + 15, none⟩) (n - 15) (c - 15)] (.int .i64 (((numZ (fun j => z (15 + j)) 0 2).toNat : Nat) : Int)) (R := fun w' => Below Wq.heap.size Wq w') rfl rfl (by kernel_rfl) (by rfl) (by go_simp) (number_two b (off + 15) (n - 15) (c - 15) (fun j => z (15 + j)) Wq (hS.shift 15 _ (by omega)) (by omega)) (fun w' hb => row_keep hS (hb.block _ hS.1)) (fun Wn hb1 hS2 => ?_)
      simp only [Act.put, List.setIfInBounds_toArray, List.set_cons_zero, List.set_cons_succ]
      have HDn := Lib.hid (HD.out.below hb1)
      clear HD hS hb1
      have HD := HDn
      have hS := hS2
      clear HDn hS2
      revert hS HD
      generalize Wn = Wq
      intro HD hS
      refine takeSt (i := 10) 5 (.tmp 87) (.tmp 80) P 1 (.int .u8 (z (8 + 0))) #[.int .u8 (z (8 + 0))] (pdC (drSet_ci (withT (kdP (z 4)) A m cL) (z (8 + 0)))) rfl rfl (by kernel_rfl) (by rfl) rfl rfl rfl rfl (by kernel_rfl) (by kernel_rfl) HD.out.1 (Nat.le_of_ble_eq_true rfl) (drPut_ci _ _) (fun Wn q1 => ⟨row_keep hS (q1.2.2 _ (by have := HD.out.2.2.2.2.2; omega)), ?_⟩)
      simp only [Act.put, List.setIfInBounds_toArray, List.set_cons_zero, List.set_cons_succ]
      have hSn := row_keep hS (q1.2.2 _ (by have := HD.out.2.2.2.2.2; omega))
      have HDn := Lib.hid (HD.out.put (y := (drSet_ci (withT (kdP (z 4)) A m cL) (z (8 + 0)))) q1)
      clear HD hS q1
      have HD := HDn
      have hS := hSn
      clear HDn hSn
      revert hS HD
      generalize Wn = Wq
      intro HD hS
      refine takeY (i := 11) (some 88) (v := .pointer (some ⟨P, 9, none⟩)) rfl rfl (by kernel_rfl) (by kernel_rfl) (by kernel_rfl) (fun _ _ _ h => h) (by rfl) (fun w' hS => by go_simp) hS ?_
      simp only [Act.put, List.setIfInBounds_toArray, List.set_cons_zero, List.set_cons_succ]
      refine takeSt (i := 12) 3 (.tmp 88) (.tmp 83) P 9 (.int .i64 ((((numZ (fun j => z (15 + j)) 0 2).toNat : Nat) : Int))) #[.int .i64 ((((numZ (fun j => z (15 + j)) 0 2).toNat : Nat) : Int))] (pdC (drSet_ho (drSet_ci (withT (kdP (z 4)) A m cL) (z (8 + 0))) ((((numZ (fun j => z (15 + j)) 0 2).toNat : Nat) : Int)))) rfl rfl (by kernel_rfl) (by rfl) rfl rfl rfl rfl (by kernel_rfl) (by kernel_rfl) HD.out.1 (Nat.le_of_ble_eq_true rfl) (drPut_ho _ _) (fun Wn q1 => ⟨row_keep hS (q1.2.2 _ (by have := HD.out.2.2.2.2.2; omega)), ?_⟩)
      simp only [Act.put, List.setIfInBounds_toArray, List.set_cons_zero, List.set_cons_succ]
      have hSn := row_keep hS (q1.2.2 _ (by have := HD.out.2.2.2.2.2; omega))
      have HDn := Lib.hid (HD.out.put (y := (drSet_ho (drSet_ci (withT (kdP (z 4)) A m cL) (z (8 + 0))) ((((numZ (fun j => z (15 + j)) 0 2).toNat : Nat) : Int)))) q1)
      clear HD hS q1
      have HD := HDn
      have hS := hSn
      clear HDn hSn
      revert hS HD
      generalize Wn = Wq
      intro HD hS
      refine takeY (i := 13) (some 89) (v := .pointer (some ⟨P, 10, none⟩)) rfl rfl (by kernel_rfl) (by kernel_rfl) (by kernel_rfl) (fun _ _ _ h => h) (by rfl) (fun w' hS => by go_simp) hS ?_
      simp only [Act.put, List.setIfInBounds_toArray, List.set_cons_zero, List.set_cons_succ]
      refine takeSt (i := 14) 5 (.tmp 89) (.tmp 86) P 10 (.int .u8 (z (19 + 0))) #[.int .u8 (z (19 + 0))] (pdC (drSet_nu (drSet_ho (drSet_ci (withT (kdP (z 4)) A m cL) (z (8 + 0))) ((((numZ (fun j => z (15 + j)) 0 2).toNat : Nat) : Int))) (z (19 + 0)))) rfl rfl (by kernel_rfl) (by rfl) rfl rfl rfl rfl (by kernel_rfl) (by kernel_rfl) HD.out.1 (Nat.le_of_ble_eq_true rfl) (drPut_nu _ _) (fun Wn q1 => ⟨row_keep hS (q1.2.2 _ (by have := HD.out.2.2.2.2.2; omega)), ?_⟩)
      simp only [Act.put, List.setIfInBounds_toArray, List.set_cons_zero, List.set_cons_succ]
      have hSn := row_keep hS (q1.2.2 _ (by have := HD.out.2.2.2.2.2; omega))
      have HDn := Lib.hid (HD.out.put (y := (drSet_nu (drSet_ho (drSet_ci (withT (kdP (z 4)) A m cL) (z (8 + 0))) ((((numZ (fun j => z (15 + j)) 0 2).toNat : Nat) : Int))) (z (19 + 0)))) q1)
      clear HD hS q1
      have HD := HDn
      have hS := hSn
      clear HDn hSn
      revert hS HD
      generalize Wn = Wq
      intro HD hS
      clear hS
      refine wpAnyH_done (by kernel_rfl) ?_ _
      go_wp2_with fail
      go_meet
      case rel => exact Lib.hid (HD.out.eq (swD_0 z A m cL))
    · as_aux_lemma =>
      clear hk hq
      have f15 : (z 4 == 15) = true := by rw [hk4]; rfl
      have f16 : (z 4 == 16) = false := by rw [hk4]; rfl
      have f17 : (z 4 == 17) = false := by rw [hk4]; rfl
      have f18 : (z 4 == 18) = false := by rw [hk4]; rfl
      have f20 : (z 4 == 20) = false := by rw [hk4]; rfl
      have f24 : (z 4 == 24) = false := by rw [hk4]; rfl
      have f25 : (z 4 == 25) = false := by rw [hk4]; rfl
      clear hk4
      have hHn : 27 ≤ n := by have : hdN 1 = 27 := rfl; omega
      clear hhq hh h17
      go_wp2_with fail
      have HDd := Lib.hid (HD.out.below (bself wq).drew)
      refine wp_region_held_drew (S := fun w' => Row8 w' b off n z) (by kernel_rfl) HDd.out.2.2.1 (fun hS => ?_)
      generalize hWq : wq.drew = Wq at hS HDd ⊢
      clear hWq HD
      have HD := HDd
      clear HDd
      refine takeY (i := 0) (some 60) (v := .slice (some ⟨b, off, none⟩) n c) rfl rfl (by kernel_rfl) (by kernel_rfl) (by kernel_rfl) (fun _ _ _ h => h) (by rfl) (fun w' hS => by go_simp) hS ?_
      simp only [Act.put, List.setIfInBounds_toArray, List.set_cons_zero, List.set_cons_succ]
      refine takeY (i := 1) (some 61) (v := .pointer (some ⟨b, off + 8, none⟩)) rfl rfl (by kernel_rfl) (by kernel_rfl) (by kernel_rfl) (fun _ _ _ h => h) (by rfl) (fun w' hS => by (have hx : (8 : Int) < (n : Int) := (by omega); clear hS; go_simp)) hS ?_
      simp only [Act.put, List.setIfInBounds_toArray, List.set_cons_zero, List.set_cons_succ]
      refine takeY (i := 2) (some 62) (v := .int .u8 (z 8)) rfl rfl (by kernel_rfl) (by kernel_rfl) (by kernel_rfl) (fun _ _ _ h => h) (by rfl) (fun w' hS => by (have c9 : w'.cell? ⟨b, off + 8, none⟩ = some (.int .u8 (z 8))   := (hS.2.1 8 (by omega)); clear hS; go_simp)) hS ?_
      simp only [Act.put, List.setIfInBounds_toArray, List.set_cons_zero, List.set_cons_succ]
      refine takeY (i := 3) (some 63) (v := .slice (some ⟨b, off, none⟩) n c) rfl rfl (by kernel_rfl) (by kernel_rfl) (by kernel_rfl) (fun _ _ _ h => h) (by rfl) (fun w' hS => by go_simp) hS ?_
      simp only [Act.put, List.setIfInBounds_toArray, List.set_cons_zero, List.set_cons_succ]
      refine takeY (i := 4) (some 64) (v := .slice (some ⟨b, off + 15, none⟩) (n - 15) (c - 15)) rfl rfl (by kernel_rfl) (by kernel_rfl) (by kernel_rfl) (fun _ _ _ h => h) (by rfl) (fun w' hS => by exact slice_in _ _ _ (.tmp 63) b off n c 15 15 rfl rfl rfl rfl (by omega) hc (by omega)) hS ?_
      simp only [Act.put, List.setIfInBounds_toArray, List.set_cons_zero, List.set_cons_succ]
      refine takeY (i := 6) (some 66) (v := .slice (some ⟨b, off, none⟩) n c) rfl rfl (by kernel_rfl) (by kernel_rfl) (by kernel_rfl) (fun _ _ _ h => h) (by rfl) (fun w' hS => by go_simp) hS ?_
      simp only [Act.put, List.setIfInBounds_toArray, List.set_cons_zero, List.set_cons_succ]
      refine takeY (i := 7) (some 67) (v := .pointer (some ⟨b, off + 19, none⟩)) rfl rfl (by kernel_rfl) (by kernel_rfl) (by kernel_rfl) (fun _ _ _ h => h) (by rfl) (fun w' hS => by (have hx : (19 : Int) < (n : Int) := (by omega); clear hS; go_simp)) hS ?_
      simp only [Act.put, List.setIfInBounds_toArray, List.set_cons_zero, List.set_cons_succ]
      refine takeY (i := 8) (some 68) (v := .int .u8 (z 19)) rfl rfl (by kernel_rfl) (by kernel_rfl) (by kernel_rfl) (fun _ _ _ h => h) (by rfl) (fun w' hS => by (have c9 : w'.cell? ⟨b, off + 19, none⟩ = some (.int .u8 (z 19))   := (hS.2.1 19 (by omega)); clear hS; go_simp)) hS ?_
      simp only [Act.put, List.setIfInBounds_toArray, List.set_cons_zero, List.set_cons_succ]
      refine takeY (i := 9) (some 69) (v := .slice (some ⟨b, off, none⟩) n c) rfl rfl (by kernel_rfl) (by kernel_rfl) (by kernel_rfl) (fun _ _ _ h => h) (by rfl) (fun w' hS => by go_simp) hS ?_
      simp only [Act.put, List.setIfInBounds_toArray, List.set_cons_zero, List.set_cons_succ]
      refine takeY (i := 10) (some 70) (v := .slice (some ⟨b, off + 20, none⟩) (n - 20) (c - 20)) rfl rfl (by kernel_rfl) (by kernel_rfl) (by kernel_rfl) (fun _ _ _ h => h) (by rfl) (fun w' hS => by exact slice_in _ _ _ (.tmp 69) b off n c 20 20 rfl rfl rfl rfl (by omega) hc (by omega)) hS ?_
      simp only [Act.put, List.setIfInBounds_toArray, List.set_cons_zero, List.set_cons_succ]
      refine takeY (i := 12) (some 72) (v := .pointer (some ⟨P, 1, none⟩)) rfl rfl (by kernel_rfl) (by kernel_rfl) (by kernel_rfl) (fun _ _ _ h => h) (by rfl) (fun w' hS => by go_simp) hS ?_
      simp only [Act.put, List.setIfInBounds_toArray, List.set_cons_zero, List.set_cons_succ]
      refine takeC (i := 5) (some 65) 77 #[.slice (some ⟨b, off + 15, none⟩) (n - 15) (c - 15)] (.int .i64 (((numZ (fun j => z (15 + j)) 0 2).toNat : Nat) : Int)) (R := fun w' => Below Wq.heap.size Wq w') rfl rfl (by kernel_rfl) (by rfl) (by go_simp) (number_two b (off + 15) (n - 15) (c - 15) (fun j => z (15 + j)) Wq (hS.shift 15 _ (by omega)) (by omega)) (fun w' hb => row_keep hS (hb.block _ hS.1)) (fun Wn hb1 hS2 => ?_)
      simp only [Act.put, List.setIfInBounds_toArray, List.set_cons_zero, List.set_cons_succ]
      have HDn := Lib.hid (HD.out.below hb1)
      clear HD hS hb1
      have HD := HDn
      have hS := hS2
      clear HDn hS2
      revert hS HD
      generalize Wn = Wq
      intro HD hS
      refine takeC (i := 11) (some 71) 78 #[.slice (some ⟨b, off + 20, none⟩) (n - 20) (c - 20)] (.agg (ndC (fun j => z (20 + j)))) (R := fun w' => Below Wq.heap.size Wq w') rfl rfl (by kernel_rfl) (by rfl) (by go_simp) (nodeAt_any b (off + 20) (n - 20) (c - 20) (fun j => z (20 + j)) Wq (hS.shift 20 _ (by omega)) (by omega) (by omega)) (fun w' hb => row_keep hS (hb.block _ hS.1)) (fun Wn hb1 hS2 => ?_)
      simp only [Act.put, List.setIfInBounds_toArray, List.set_cons_zero, List.set_cons_succ]
      have HDn := Lib.hid (HD.out.below hb1)
      clear HD hS hb1
      have HD := HDn
      have hS := hS2
      clear HDn hS2
      revert hS HD
      generalize Wn = Wq
      intro HD hS
      refine takeSt (i := 13) 5 (.tmp 72) (.tmp 62) P 1 (.int .u8 (z (8 + 0))) #[.int .u8 (z (8 + 0))] (pdC (drSet_ci (withT (kdP (z 4)) A m cL) (z (8 + 0)))) rfl rfl (by kernel_rfl) (by rfl) rfl rfl rfl rfl (by kernel_rfl) (by kernel_rfl) HD.out.1 (Nat.le_of_ble_eq_true rfl) (drPut_ci _ _) (fun Wn q1 => ⟨row_keep hS (q1.2.2 _ (by have := HD.out.2.2.2.2.2; omega)), ?_⟩)
      simp only [Act.put, List.setIfInBounds_toArray, List.set_cons_zero, List.set_cons_succ]
      have hSn := row_keep hS (q1.2.2 _ (by have := HD.out.2.2.2.2.2; omega))
      have HDn := Lib.hid (HD.out.put (y := (drSet_ci (withT (kdP (z 4)) A m cL) (z (8 + 0)))) q1)
      clear HD hS q1
      have HD := HDn
      have hS := hSn
      clear HDn hSn
      revert hS HD
      generalize Wn = Wq
      intro HD hS
      refine takeY (i := 14) (some 73) (v := .pointer (some ⟨P, 9, none⟩)) rfl rfl (by kernel_rfl) (by kernel_rfl) (by kernel_rfl) (fun _ _ _ h => h) (by rfl) (fun w' hS => by go_simp) hS ?_
      simp only [Act.put, List.setIfInBounds_toArray, List.set_cons_zero, List.set_cons_succ]
      refine takeSt (i := 15) 3 (.tmp 73) (.tmp 65) P 9 (.int .i64 ((((numZ (fun j => z (15 + j)) 0 2).toNat : Nat) : Int))) #[.int .i64 ((((numZ (fun j => z (15 + j)) 0 2).toNat : Nat) : Int))] (pdC (drSet_ho (drSet_ci (withT (kdP (z 4)) A m cL) (z (8 + 0))) ((((numZ (fun j => z (15 + j)) 0 2).toNat : Nat) : Int)))) rfl rfl (by kernel_rfl) (by rfl) rfl rfl rfl rfl (by kernel_rfl) (by kernel_rfl) HD.out.1 (Nat.le_of_ble_eq_true rfl) (drPut_ho _ _) (fun Wn q1 => ⟨row_keep hS (q1.2.2 _ (by have := HD.out.2.2.2.2.2; omega)), ?_⟩)
      simp only [Act.put, List.setIfInBounds_toArray, List.set_cons_zero, List.set_cons_succ]
      have hSn := row_keep hS (q1.2.2 _ (by have := HD.out.2.2.2.2.2; omega))
      have HDn := Lib.hid (HD.out.put (y := (drSet_ho (drSet_ci (withT (kdP (z 4)) A m cL) (z (8 + 0))) ((((numZ (fun j => z (15 + j)) 0 2).toNat : Nat) : Int)))) q1)
      clear HD hS q1
      have HD := HDn
      have hS := hSn
      clear HDn hSn
      revert hS HD
      generalize Wn = Wq
      intro HD hS
      refine takeY (i := 16) (some 74) (v := .pointer (some ⟨P, 11, none⟩)) rfl rfl (by kernel_rfl) (by kernel_rfl) (by kernel_rfl) (fun _ _ _ h => h) (by rfl) (fun w' hS => by go_simp) hS ?_
      simp only [Act.put, List.setIfInBounds_toArray, List.set_cons_zero, List.set_cons_succ]
      refine takeSt (i := 17) 5 (.tmp 74) (.tmp 68) P 11 (.int .u8 (z (19 + 0))) #[.int .u8 (z (19 + 0))] (pdC (drSet_pr (drSet_ho (drSet_ci (withT (kdP (z 4)) A m cL) (z (8 + 0))) ((((numZ (fun j => z (15 + j)) 0 2).toNat : Nat) : Int))) (z (19 + 0)))) rfl rfl (by kernel_rfl) (by rfl) rfl rfl rfl rfl (by kernel_rfl) (by kernel_rfl) HD.out.1 (Nat.le_of_ble_eq_true rfl) (drPut_pr _ _) (fun Wn q1 => ⟨row_keep hS (q1.2.2 _ (by have := HD.out.2.2.2.2.2; omega)), ?_⟩)
      simp only [Act.put, List.setIfInBounds_toArray, List.set_cons_zero, List.set_cons_succ]
      have hSn := row_keep hS (q1.2.2 _ (by have := HD.out.2.2.2.2.2; omega))
      have HDn := Lib.hid (HD.out.put (y := (drSet_pr (drSet_ho (drSet_ci (withT (kdP (z 4)) A m cL) (z (8 + 0))) ((((numZ (fun j => z (15 + j)) 0 2).toNat : Nat) : Int))) (z (19 + 0)))) q1)
      clear HD hS q1
      have HD := HDn
      have hS := hSn
      clear HDn hSn
      revert hS HD
      generalize Wn = Wq
      intro HD hS
      refine takeY (i := 18) (some 75) (v := .pointer (some ⟨P, 12, none⟩)) rfl rfl (by kernel_rfl) (by kernel_rfl) (by kernel_rfl) (fun _ _ _ h => h) (by rfl) (fun w' hS => by go_simp) hS ?_
      simp only [Act.put, List.setIfInBounds_toArray, List.set_cons_zero, List.set_cons_succ]
      refine takeSt (i := 19) 36 (.tmp 75) (.tmp 71) P 12 (.agg (ndC (fun j => z (20 + j)))) (ndC (fun j => z (20 + j))) (pdC (drSet_la (drSet_pr (drSet_ho (drSet_ci (withT (kdP (z 4)) A m cL) (z (8 + 0))) ((((numZ (fun j => z (15 + j)) 0 2).toNat : Nat) : Int))) (z (19 + 0))) ((fun j => z (20 + j))))) rfl rfl (by kernel_rfl) (by rfl) rfl rfl rfl rfl info_node (nd_all _) HD.out.1 (Nat.le_of_ble_eq_true rfl) (drPut_la _ _) (fun Wn q1 => ⟨row_keep hS (q1.2.2 _ (by have := HD.out.2.2.2.2.2; omega)), ?_⟩)
      simp only [Act.put, List.setIfInBounds_toArray, List.set_cons_zero, List.set_cons_succ]
      have hSn := row_keep hS (q1.2.2 _ (by have := HD.out.2.2.2.2.2; omega))
      have HDn := Lib.hid (HD.out.put (y := (drSet_la (drSet_pr (drSet_ho (drSet_ci (withT (kdP (z 4)) A m cL) (z (8 + 0))) ((((numZ (fun j => z (15 + j)) 0 2).toNat : Nat) : Int))) (z (19 + 0))) ((fun j => z (20 + j))))) q1)
      clear HD hS q1
      have HD := HDn
      have hS := hSn
      clear HDn hSn
      revert hS HD
      generalize Wn = Wq
      intro HD hS
      clear hS
      refine wpAnyH_done (by kernel_rfl) ?_ _
      go_wp2_with fail
      go_meet
      case rel => exact Lib.hid (HD.out.eq (swD_1 z A m cL))
    · as_aux_lemma =>
      clear hk hq
      have f15 : (z 4 == 15) = false := by rw [hk4]; rfl
      have f16 : (z 4 == 16) = true := by rw [hk4]; rfl
      have f17 : (z 4 == 17) = false := by rw [hk4]; rfl
      have f18 : (z 4 == 18) = false := by rw [hk4]; rfl
      have f20 : (z 4 == 20) = false := by rw [hk4]; rfl
      have f24 : (z 4 == 24) = false := by rw [hk4]; rfl
      have f25 : (z 4 == 25) = false := by rw [hk4]; rfl
      clear hk4
      have hHn : 27 ≤ n := by have : hdN 1 = 27 := rfl; omega
      clear hhq hh h17
      go_wp2_with fail
      have HDd := Lib.hid (HD.out.below (bself wq).drew)
      refine wp_region_held_drew (S := fun w' => Row8 w' b off n z) (by kernel_rfl) HDd.out.2.2.1 (fun hS => ?_)
      generalize hWq : wq.drew = Wq at hS HDd ⊢
      clear hWq HD
      have HD := HDd
      clear HDd
      refine takeY (i := 0) (some 60) (v := .slice (some ⟨b, off, none⟩) n c) rfl rfl (by kernel_rfl) (by kernel_rfl) (by kernel_rfl) (fun _ _ _ h => h) (by rfl) (fun w' hS => by go_simp) hS ?_
      simp only [Act.put, List.setIfInBounds_toArray, List.set_cons_zero, List.set_cons_succ]
      refine takeY (i := 1) (some 61) (v := .pointer (some ⟨b, off + 8, none⟩)) rfl rfl (by kernel_rfl) (by kernel_rfl) (by kernel_rfl) (fun _ _ _ h => h) (by rfl) (fun w' hS => by (have hx : (8 : Int) < (n : Int) := (by omega); clear hS; go_simp)) hS ?_
      simp only [Act.put, List.setIfInBounds_toArray, List.set_cons_zero, List.set_cons_succ]
      refine takeY (i := 2) (some 62) (v := .int .u8 (z 8)) rfl rfl (by kernel_rfl) (by kernel_rfl) (by kernel_rfl) (fun _ _ _ h => h) (by rfl) (fun w' hS => by (have c9 : w'.cell? ⟨b, off + 8, none⟩ = some (.int .u8 (z 8))   := (hS.2.1 8 (by omega)); clear hS; go_simp)) hS ?_
      simp only [Act.put, List.setIfInBounds_toArray, List.set_cons_zero, List.set_cons_succ]
      refine takeY (i := 3) (some 63) (v := .slice (some ⟨b, off, none⟩) n c) rfl rfl (by kernel_rfl) (by kernel_rfl) (by kernel_rfl) (fun _ _ _ h => h) (by rfl) (fun w' hS => by go_simp) hS ?_
      simp only [Act.put, List.setIfInBounds_toArray, List.set_cons_zero, List.set_cons_succ]
      refine takeY (i := 4) (some 64) (v := .slice (some ⟨b, off + 15, none⟩) (n - 15) (c - 15)) rfl rfl (by kernel_rfl) (by kernel_rfl) (by kernel_rfl) (fun _ _ _ h => h) (by rfl) (fun w' hS => by exact slice_in _ _ _ (.tmp 63) b off n c 15 15 rfl rfl rfl rfl (by omega) hc (by omega)) hS ?_
      simp only [Act.put, List.setIfInBounds_toArray, List.set_cons_zero, List.set_cons_succ]
      refine takeY (i := 6) (some 66) (v := .slice (some ⟨b, off, none⟩) n c) rfl rfl (by kernel_rfl) (by kernel_rfl) (by kernel_rfl) (fun _ _ _ h => h) (by rfl) (fun w' hS => by go_simp) hS ?_
      simp only [Act.put, List.setIfInBounds_toArray, List.set_cons_zero, List.set_cons_succ]
      refine takeY (i := 7) (some 67) (v := .pointer (some ⟨b, off + 19, none⟩)) rfl rfl (by kernel_rfl) (by kernel_rfl) (by kernel_rfl) (fun _ _ _ h => h) (by rfl) (fun w' hS => by (have hx : (19 : Int) < (n : Int) := (by omega); clear hS; go_simp)) hS ?_
      simp only [Act.put, List.setIfInBounds_toArray, List.set_cons_zero, List.set_cons_succ]
      refine takeY (i := 8) (some 68) (v := .int .u8 (z 19)) rfl rfl (by kernel_rfl) (by kernel_rfl) (by kernel_rfl) (fun _ _ _ h => h) (by rfl) (fun w' hS => by (have c9 : w'.cell? ⟨b, off + 19, none⟩ = some (.int .u8 (z 19))   := (hS.2.1 19 (by omega)); clear hS; go_simp)) hS ?_
      simp only [Act.put, List.setIfInBounds_toArray, List.set_cons_zero, List.set_cons_succ]
      refine takeY (i := 9) (some 69) (v := .slice (some ⟨b, off, none⟩) n c) rfl rfl (by kernel_rfl) (by kernel_rfl) (by kernel_rfl) (fun _ _ _ h => h) (by rfl) (fun w' hS => by go_simp) hS ?_
      simp only [Act.put, List.setIfInBounds_toArray, List.set_cons_zero, List.set_cons_succ]
      refine takeY (i := 10) (some 70) (v := .slice (some ⟨b, off + 20, none⟩) (n - 20) (c - 20)) rfl rfl (by kernel_rfl) (by kernel_rfl) (by kernel_rfl) (fun _ _ _ h => h) (by rfl) (fun w' hS => by exact slice_in _ _ _ (.tmp 69) b off n c 20 20 rfl rfl rfl rfl (by omega) hc (by omega)) hS ?_
      simp only [Act.put, List.setIfInBounds_toArray, List.set_cons_zero, List.set_cons_succ]
      refine takeY (i := 12) (some 72) (v := .pointer (some ⟨P, 1, none⟩)) rfl rfl (by kernel_rfl) (by kernel_rfl) (by kernel_rfl) (fun _ _ _ h => h) (by rfl) (fun w' hS => by go_simp) hS ?_
      simp only [Act.put, List.setIfInBounds_toArray, List.set_cons_zero, List.set_cons_succ]
      refine takeC (i := 5) (some 65) 77 #[.slice (some ⟨b, off + 15, none⟩) (n - 15) (c - 15)] (.int .i64 (((numZ (fun j => z (15 + j)) 0 2).toNat : Nat) : Int)) (R := fun w' => Below Wq.heap.size Wq w') rfl rfl (by kernel_rfl) (by rfl) (by go_simp) (number_two b (off + 15) (n - 15) (c - 15) (fun j => z (15 + j)) Wq (hS.shift 15 _ (by omega)) (by omega)) (fun w' hb => row_keep hS (hb.block _ hS.1)) (fun Wn hb1 hS2 => ?_)
      simp only [Act.put, List.setIfInBounds_toArray, List.set_cons_zero, List.set_cons_succ]
      have HDn := Lib.hid (HD.out.below hb1)
      clear HD hS hb1
      have HD := HDn
      have hS := hS2
      clear HDn hS2
      revert hS HD
      generalize Wn = Wq
      intro HD hS
      refine takeC (i := 11) (some 71) 78 #[.slice (some ⟨b, off + 20, none⟩) (n - 20) (c - 20)] (.agg (ndC (fun j => z (20 + j)))) (R := fun w' => Below Wq.heap.size Wq w') rfl rfl (by kernel_rfl) (by rfl) (by go_simp) (nodeAt_any b (off + 20) (n - 20) (c - 20) (fun j => z (20 + j)) Wq (hS.shift 20 _ (by omega)) (by omega) (by omega)) (fun w' hb => row_keep hS (hb.block _ hS.1)) (fun Wn hb1 hS2 => ?_)
      simp only [Act.put, List.setIfInBounds_toArray, List.set_cons_zero, List.set_cons_succ]
      have HDn := Lib.hid (HD.out.below hb1)
      clear HD hS hb1
      have HD := HDn
      have hS := hS2
      clear HDn hS2
      revert hS HD
      generalize Wn = Wq
      intro HD hS
      refine takeSt (i := 13) 5 (.tmp 72) (.tmp 62) P 1 (.int .u8 (z (8 + 0))) #[.int .u8 (z (8 + 0))] (pdC (drSet_ci (withT (kdP (z 4)) A m cL) (z (8 + 0)))) rfl rfl (by kernel_rfl) (by rfl) rfl rfl rfl rfl (by kernel_rfl) (by kernel_rfl) HD.out.1 (Nat.le_of_ble_eq_true rfl) (drPut_ci _ _) (fun Wn q1 => ⟨row_keep hS (q1.2.2 _ (by have := HD.out.2.2.2.2.2; omega)), ?_⟩)
      simp only [Act.put, List.setIfInBounds_toArray, List.set_cons_zero, List.set_cons_succ]
      have hSn := row_keep hS (q1.2.2 _ (by have := HD.out.2.2.2.2.2; omega))
      have HDn := Lib.hid (HD.out.put (y := (drSet_ci (withT (kdP (z 4)) A m cL) (z (8 + 0)))) q1)
      clear HD hS q1
      have HD := HDn
      have hS := hSn
      clear HDn hSn
      revert hS HD
      generalize Wn = Wq
      intro HD hS
      refine takeY (i := 14) (some 73) (v := .pointer (some ⟨P, 9, none⟩)) rfl rfl (by kernel_rfl) (by kernel_rfl) (by kernel_rfl) (fun _ _ _ h => h) (by rfl) (fun w' hS => by go_simp) hS ?_
      simp only [Act.put, List.setIfInBounds_toArray, List.set_cons_zero, List.set_cons_succ]
      refine takeSt (i := 15) 3 (.tmp 73) (.tmp 65) P 9 (.int .i64 ((((numZ (fun j => z (15 + j)) 0 2).toNat : Nat) : Int))) #[.int .i64 ((((numZ (fun j => z (15 + j)) 0 2).toNat : Nat) : Int))] (pdC (drSet_ho (drSet_ci (withT (kdP (z 4)) A m cL) (z (8 + 0))) ((((numZ (fun j => z (15 + j)) 0 2).toNat : Nat) : Int)))) rfl rfl (by kernel_rfl) (by rfl) rfl rfl rfl rfl (by kernel_rfl) (by kernel_rfl) HD.out.1 (Nat.le_of_ble_eq_true rfl) (drPut_ho _ _) (fun Wn q1 => ⟨row_keep hS (q1.2.2 _ (by have := HD.out.2.2.2.2.2; omega)), ?_⟩)
      simp only [Act.put, List.setIfInBounds_toArray, List.set_cons_zero, List.set_cons_succ]
      have hSn := row_keep hS (q1.2.2 _ (by have := HD.out.2.2.2.2.2; omega))
      have HDn := Lib.hid (HD.out.put (y := (drSet_ho (drSet_ci (withT (kdP (z 4)) A m cL) (z (8 + 0))) ((((numZ (fun j => z (15 + j)) 0 2).toNat : Nat) : Int)))) q1)
      clear HD hS q1
      have HD := HDn
      have hS := hSn
      clear HDn hSn
      revert hS HD
      generalize Wn = Wq
      intro HD hS
      refine takeY (i := 16) (some 74) (v := .pointer (some ⟨P, 11, none⟩)) rfl rfl (by kernel_rfl) (by kernel_rfl) (by kernel_rfl) (fun _ _ _ h => h) (by rfl) (fun w' hS => by go_simp) hS ?_
      simp only [Act.put, List.setIfInBounds_toArray, List.set_cons_zero, List.set_cons_succ]
      refine takeSt (i := 17) 5 (.tmp 74) (.tmp 68) P 11 (.int .u8 (z (19 + 0))) #[.int .u8 (z (19 + 0))] (pdC (drSet_pr (drSet_ho (drSet_ci (withT (kdP (z 4)) A m cL) (z (8 + 0))) ((((numZ (fun j => z (15 + j)) 0 2).toNat : Nat) : Int))) (z (19 + 0)))) rfl rfl (by kernel_rfl) (by rfl) rfl rfl rfl rfl (by kernel_rfl) (by kernel_rfl) HD.out.1 (Nat.le_of_ble_eq_true rfl) (drPut_pr _ _) (fun Wn q1 => ⟨row_keep hS (q1.2.2 _ (by have := HD.out.2.2.2.2.2; omega)), ?_⟩)
      simp only [Act.put, List.setIfInBounds_toArray, List.set_cons_zero, List.set_cons_succ]
      have hSn := row_keep hS (q1.2.2 _ (by have := HD.out.2.2.2.2.2; omega))
      have HDn := Lib.hid (HD.out.put (y := (drSet_pr (drSet_ho (drSet_ci (withT (kdP (z 4)) A m cL) (z (8 + 0))) ((((numZ (fun j => z (15 + j)) 0 2).toNat : Nat) : Int))) (z (19 + 0)))) q1)
      clear HD hS q1
      have HD := HDn
      have hS := hSn
      clear HDn hSn
      revert hS HD
      generalize Wn = Wq
      intro HD hS
      refine takeY (i := 18) (some 75) (v := .pointer (some ⟨P, 12, none⟩)) rfl rfl (by kernel_rfl) (by kernel_rfl) (by kernel_rfl) (fun _ _ _ h => h) (by rfl) (fun w' hS => by go_simp) hS ?_
      simp only [Act.put, List.setIfInBounds_toArray, List.set_cons_zero, List.set_cons_succ]
      refine takeSt (i := 19) 36 (.tmp 75) (.tmp 71) P 12 (.agg (ndC (fun j => z (20 + j)))) (ndC (fun j => z (20 + j))) (pdC (drSet_la (drSet_pr (drSet_ho (drSet_ci (withT (kdP (z 4)) A m cL) (z (8 + 0))) ((((numZ (fun j => z (15 + j)) 0 2).toNat : Nat) : Int))) (z (19 + 0))) ((fun j => z (20 + j))))) rfl rfl (by kernel_rfl) (by rfl) rfl rfl rfl rfl info_node (nd_all _) HD.out.1 (Nat.le_of_ble_eq_true rfl) (drPut_la _ _) (fun Wn q1 => ⟨row_keep hS (q1.2.2 _ (by have := HD.out.2.2.2.2.2; omega)), ?_⟩)
      simp only [Act.put, List.setIfInBounds_toArray, List.set_cons_zero, List.set_cons_succ]
      have hSn := row_keep hS (q1.2.2 _ (by have := HD.out.2.2.2.2.2; omega))
      have HDn := Lib.hid (HD.out.put (y := (drSet_la (drSet_pr (drSet_ho (drSet_ci (withT (kdP (z 4)) A m cL) (z (8 + 0))) ((((numZ (fun j => z (15 + j)) 0 2).toNat : Nat) : Int))) (z (19 + 0))) ((fun j => z (20 + j))))) q1)
      clear HD hS q1
      have HD := HDn
      have hS := hSn
      clear HDn hSn
      revert hS HD
      generalize Wn = Wq
      intro HD hS
      clear hS
      refine wpAnyH_done (by kernel_rfl) ?_ _
      go_wp2_with fail
      go_meet
      case rel => exact Lib.hid (HD.out.eq (swD_1 z A m cL))
    · as_aux_lemma =>
      clear hk hq
      have f15 : (z 4 == 15) = false := by rw [hk4]; rfl
      have f16 : (z 4 == 16) = false := by rw [hk4]; rfl
      have f17 : (z 4 == 17) = false := by rw [hk4]; rfl
      have f18 : (z 4 == 18) = true := by rw [hk4]; rfl
      have f20 : (z 4 == 20) = false := by rw [hk4]; rfl
      have f24 : (z 4 == 24) = false := by rw [hk4]; rfl
      have f25 : (z 4 == 25) = false := by rw [hk4]; rfl
      clear hk4
      have hHn : 27 ≤ n := by have : hdN 2 = 27 := rfl; omega
      clear hhq hh h17
      go_wp2_with fail
      have HDd := Lib.hid (HD.out.below (bself wq).drew)
      refine wp_region_held_drew (S := fun w' => Row8 w' b off n z) (by kernel_rfl) HDd.out.2.2.1 (fun hS => ?_)
      generalize hWq : wq.drew = Wq at hS HDd ⊢
      clear hWq HD
      have HD := HDd
      clear HDd
      refine takeY (i := 0) (some 93) (v := .slice (some ⟨b, off, none⟩) n c) rfl rfl (by kernel_rfl) (by kernel_rfl) (by kernel_rfl) (fun _ _ _ h => h) (by rfl) (fun w' hS => by go_simp) hS ?_
      simp only [Act.put, List.setIfInBounds_toArray, List.set_cons_zero, List.set_cons_succ]
      refine takeY (i := 1) (some 94) (v := .slice (some ⟨b, off + 10, none⟩) (n - 10) (c - 10)) rfl rfl (by kernel_rfl) (by kernel_rfl) (by kernel_rfl) (fun _ _ _ h => h) (by rfl) (fun w' hS => by exact slice_in _ _ _ (.tmp 93) b off n c 10 10 rfl rfl rfl rfl (by omega) hc (by omega)) hS ?_
      simp only [Act.put, List.setIfInBounds_toArray, List.set_cons_zero, List.set_cons_succ]
      refine takeY (i := 3) (some 96) (v := .slice (some ⟨b, off, none⟩) n c) rfl rfl (by kernel_rfl) (by kernel_rfl) (by kernel_rfl) (fun _ _ _ h => h) (by rfl) (fun w' hS => by go_simp) hS ?_
      simp only [Act.put, List.setIfInBounds_toArray, List.set_cons_zero, List.set_cons_succ]
      refine takeY (i := 4) (some 97) (v := .slice (some ⟨b, off + 12, none⟩) (n - 12) (c - 12)) rfl rfl (by kernel_rfl) (by kernel_rfl) (by kernel_rfl) (fun _ _ _ h => h) (by rfl) (fun w' hS => by exact slice_in _ _ _ (.tmp 96) b off n c 12 12 rfl rfl rfl rfl (by omega) hc (by omega)) hS ?_
      simp only [Act.put, List.setIfInBounds_toArray, List.set_cons_zero, List.set_cons_succ]
      refine takeY (i := 6) (some 99) (v := .slice (some ⟨b, off, none⟩) n c) rfl rfl (by kernel_rfl) (by kernel_rfl) (by kernel_rfl) (fun _ _ _ h => h) (by rfl) (fun w' hS => by go_simp) hS ?_
      simp only [Act.put, List.setIfInBounds_toArray, List.set_cons_zero, List.set_cons_succ]
      refine takeY (i := 7) (some 100) (v := .slice (some ⟨b, off + 20, none⟩) 4 (c - 20)) rfl rfl (by kernel_rfl) (by kernel_rfl) (by kernel_rfl) (fun _ _ _ h => h) (by rfl) (fun w' hS => by (have h1 : (24 : Int) ≤ (c : Int) := (by omega); have h2 : ¬ c = 20 := (by omega); clear hS; go_simp; first | done | (rw [if_pos h1, if_neg h2]))) hS ?_
      simp only [Act.put, List.setIfInBounds_toArray, List.set_cons_zero, List.set_cons_succ]
      refine takeY (i := 10) (some 103) (v := .slice (some ⟨b, off, none⟩) n c) rfl rfl (by kernel_rfl) (by kernel_rfl) (by kernel_rfl) (fun _ _ _ h => h) (by rfl) (fun w' hS => by go_simp) hS ?_
      simp only [Act.put, List.setIfInBounds_toArray, List.set_cons_zero, List.set_cons_succ]
      refine takeY (i := 11) (some 104) (v := .pointer (some ⟨b, off + 26, none⟩)) rfl rfl (by kernel_rfl) (by kernel_rfl) (by kernel_rfl) (fun _ _ _ h => h) (by rfl) (fun w' hS => by (have hx : (26 : Int) < (n : Int) := (by omega); clear hS; go_simp)) hS ?_
      simp only [Act.put, List.setIfInBounds_toArray, List.set_cons_zero, List.set_cons_succ]
      refine takeY (i := 12) (some 105) (v := .int .u8 (z 26)) rfl rfl (by kernel_rfl) (by kernel_rfl) (by kernel_rfl) (fun _ _ _ h => h) (by rfl) (fun w' hS => by (have c9 : w'.cell? ⟨b, off + 26, none⟩ = some (.int .u8 (z 26))   := (hS.2.1 26 (by omega)); clear hS; go_simp)) hS ?_
      simp only [Act.put, List.setIfInBounds_toArray, List.set_cons_zero, List.set_cons_succ]
      refine takeC (i := 2) (some 95) 77 #[.slice (some ⟨b, off + 10, none⟩) (n - 10) (c - 10)] (.int .i64 (((numZ (fun j => z (10 + j)) 0 2).toNat : Nat) : Int)) (R := fun w' => Below Wq.heap.size Wq w') rfl rfl (by kernel_rfl) (by rfl) (by go_simp) (number_two b (off + 10) (n - 10) (c - 10) (fun j => z (10 + j)) Wq (hS.shift 10 _ (by omega)) (by omega)) (fun w' hb => row_keep hS (hb.block _ hS.1)) (fun Wn hb1 hS2 => ?_)
      simp only [Act.put, List.setIfInBounds_toArray, List.set_cons_zero, List.set_cons_succ]
      have HDn := Lib.hid (HD.out.below hb1)
      clear HD hS hb1
      have HD := HDn
      have hS := hS2
      clear HDn hS2
      revert hS HD
      generalize Wn = Wq
      intro HD hS
      refine takeY (i := 13) (some 106) (v := .pointer (some ⟨P, 19, none⟩)) rfl rfl (by kernel_rfl) (by kernel_rfl) (by kernel_rfl) (fun _ _ _ h => h) (by rfl) (fun w' hS => by go_simp) hS ?_
      simp only [Act.put, List.setIfInBounds_toArray, List.set_cons_zero, List.set_cons_succ]
      refine takeC (i := 5) (some 98) 79 #[.slice (some ⟨b, off + 12, none⟩) (n - 12) (c - 12)] (.agg (idC (fun j => z (12 + j)))) (R := fun w' => Below Wq.heap.size Wq w') rfl rfl (by kernel_rfl) (by rfl) (by go_simp) (idAt_any b (off + 12) (n - 12) (c - 12) (fun j => z (12 + j)) Wq (hS.shift 12 _ (by omega)) (by omega) (by omega)) (fun w' hb => row_keep hS (hb.block _ hS.1)) (fun Wn hb1 hS2 => ?_)
      simp only [Act.put, List.setIfInBounds_toArray, List.set_cons_zero, List.set_cons_succ]
      have HDn := Lib.hid (HD.out.below hb1)
      clear HD hS hb1
      have HD := HDn
      have hS := hS2
      clear HDn hS2
      revert hS HD
      generalize Wn = Wq
      intro HD hS
      refine takeC (i := 8) (some 101) 80 #[.slice (some ⟨b, off + 20, none⟩) 4 (c - 20)] (.int .u64 (((numZ (fun j => z (20 + j)) 0 4).toNat : Nat) : Int)) (R := fun w' => Below Wq.heap.size Wq w') rfl rfl (by kernel_rfl) (by rfl) (by go_simp) (number_four b (off + 20) (c - 20) (fun j => z (20 + j)) Wq (hS.shift 20 4 (by omega))) (fun w' hb => row_keep hS (hb.block _ hS.1)) (fun Wn hb1 hS2 => ?_)
      simp only [Act.put, List.setIfInBounds_toArray, List.set_cons_zero, List.set_cons_succ]
      have HDn := Lib.hid (HD.out.below hb1)
      clear HD hS hb1
      have HD := HDn
      have hS := hS2
      clear HDn hS2
      revert hS HD
      generalize Wn = Wq
      intro HD hS
      refine takeY (i := 9) (some 102) (v := .int .u32 (((numZ (fun j => z (20 + j)) 0 4).toNat : Nat) : Int)) rfl rfl (by kernel_rfl) (by kernel_rfl) (by kernel_rfl) (fun _ _ _ h => h) (by rfl) (fun w' hS => by (have hq := num4_le z 20 (fun j => hS.2.2 j); clear hS; go_simp; simp [IntKind.wrap, IntKind.signed, IntKind.bits]; omega)) hS ?_
      simp only [Act.put, List.setIfInBounds_toArray, List.set_cons_zero, List.set_cons_succ]
      refine takeSt (i := 14) 3 (.tmp 106) (.tmp 95) P 19 (.int .i64 ((((numZ (fun j => z (10 + j)) 0 2).toNat : Nat) : Int))) #[.int .i64 ((((numZ (fun j => z (10 + j)) 0 2).toNat : Nat) : Int))] (pdC (drSet_li (withT (kdP (z 4)) A m cL) ((((numZ (fun j => z (10 + j)) 0 2).toNat : Nat) : Int)))) rfl rfl (by kernel_rfl) (by rfl) rfl rfl rfl rfl (by kernel_rfl) (by kernel_rfl) HD.out.1 (Nat.le_of_ble_eq_true rfl) (drPut_li _ _) (fun Wn q1 => ⟨row_keep hS (q1.2.2 _ (by have := HD.out.2.2.2.2.2; omega)), ?_⟩)
      simp only [Act.put, List.setIfInBounds_toArray, List.set_cons_zero, List.set_cons_succ]
      have hSn := row_keep hS (q1.2.2 _ (by have := HD.out.2.2.2.2.2; omega))
      have HDn := Lib.hid (HD.out.put (y := (drSet_li (withT (kdP (z 4)) A m cL) ((((numZ (fun j => z (10 + j)) 0 2).toNat : Nat) : Int)))) q1)
      clear HD hS q1
      have HD := HDn
      have hS := hSn
      clear HDn hSn
      revert hS HD
      generalize Wn = Wq
      intro HD hS
      refine takeY (i := 15) (some 107) (v := .pointer (some ⟨P, 20, none⟩)) rfl rfl (by kernel_rfl) (by kernel_rfl) (by kernel_rfl) (fun _ _ _ h => h) (by rfl) (fun w' hS => by go_simp) hS ?_
      simp only [Act.put, List.setIfInBounds_toArray, List.set_cons_zero, List.set_cons_succ]
      refine takeSt (i := 16) 38 (.tmp 107) (.tmp 98) P 20 (.agg (idC (fun j => z (12 + j)))) (idC (fun j => z (12 + j))) (pdC (drSet_id (drSet_li (withT (kdP (z 4)) A m cL) ((((numZ (fun j => z (10 + j)) 0 2).toNat : Nat) : Int))) ((fun j => z (12 + j))))) rfl rfl (by kernel_rfl) (by rfl) rfl rfl rfl rfl info_id (id_all _) HD.out.1 (Nat.le_of_ble_eq_true rfl) (drPut_id _ _) (fun Wn q1 => ⟨row_keep hS (q1.2.2 _ (by have := HD.out.2.2.2.2.2; omega)), ?_⟩)
      simp only [Act.put, List.setIfInBounds_toArray, List.set_cons_zero, List.set_cons_succ]
      have hSn := row_keep hS (q1.2.2 _ (by have := HD.out.2.2.2.2.2; omega))
      have HDn := Lib.hid (HD.out.put (y := (drSet_id (drSet_li (withT (kdP (z 4)) A m cL) ((((numZ (fun j => z (10 + j)) 0 2).toNat : Nat) : Int))) ((fun j => z (12 + j))))) q1)
      clear HD hS q1
      have HD := HDn
      have hS := hSn
      clear HDn hSn
      revert hS HD
      generalize Wn = Wq
      intro HD hS
      refine takeY (i := 17) (some 108) (v := .pointer (some ⟨P, 28, none⟩)) rfl rfl (by kernel_rfl) (by kernel_rfl) (by kernel_rfl) (fun _ _ _ h => h) (by rfl) (fun w' hS => by go_simp) hS ?_
      simp only [Act.put, List.setIfInBounds_toArray, List.set_cons_zero, List.set_cons_succ]
      refine takeSt (i := 18) 39 (.tmp 108) (.tmp 102) P 28 (.int .u32 (((numZ (fun j => z (20 + j)) 0 4).toNat : Nat) : Int)) #[.int .u32 (((numZ (fun j => z (20 + j)) 0 4).toNat : Nat) : Int)] (pdC (drSet_sq (drSet_id (drSet_li (withT (kdP (z 4)) A m cL) ((((numZ (fun j => z (10 + j)) 0 2).toNat : Nat) : Int))) ((fun j => z (12 + j)))) ((numZ (fun j => z (20 + j)) 0 4).toNat))) rfl rfl (by kernel_rfl) (by rfl) rfl rfl rfl rfl (by kernel_rfl) (by kernel_rfl) HD.out.1 (Nat.le_of_ble_eq_true rfl) (drPut_sq _ _) (fun Wn q1 => ⟨row_keep hS (q1.2.2 _ (by have := HD.out.2.2.2.2.2; omega)), ?_⟩)
      simp only [Act.put, List.setIfInBounds_toArray, List.set_cons_zero, List.set_cons_succ]
      have hSn := row_keep hS (q1.2.2 _ (by have := HD.out.2.2.2.2.2; omega))
      have HDn := Lib.hid (HD.out.put (y := (drSet_sq (drSet_id (drSet_li (withT (kdP (z 4)) A m cL) ((((numZ (fun j => z (10 + j)) 0 2).toNat : Nat) : Int))) ((fun j => z (12 + j)))) ((numZ (fun j => z (20 + j)) 0 4).toNat))) q1)
      clear HD hS q1
      have HD := HDn
      have hS := hSn
      clear HDn hSn
      revert hS HD
      generalize Wn = Wq
      intro HD hS
      refine takeY (i := 19) (some 109) (v := .pointer (some ⟨P, 29, none⟩)) rfl rfl (by kernel_rfl) (by kernel_rfl) (by kernel_rfl) (fun _ _ _ h => h) (by rfl) (fun w' hS => by go_simp) hS ?_
      simp only [Act.put, List.setIfInBounds_toArray, List.set_cons_zero, List.set_cons_succ]
      refine takeSt (i := 20) 5 (.tmp 109) (.tmp 105) P 29 (.int .u8 (z (26 + 0))) #[.int .u8 (z (26 + 0))] (pdC (drSet_bi (drSet_sq (drSet_id (drSet_li (withT (kdP (z 4)) A m cL) ((((numZ (fun j => z (10 + j)) 0 2).toNat : Nat) : Int))) ((fun j => z (12 + j)))) ((numZ (fun j => z (20 + j)) 0 4).toNat)) (z (26 + 0)))) rfl rfl (by kernel_rfl) (by rfl) rfl rfl rfl rfl (by kernel_rfl) (by kernel_rfl) HD.out.1 (Nat.le_of_ble_eq_true rfl) (drPut_bi _ _) (fun Wn q1 => ⟨row_keep hS (q1.2.2 _ (by have := HD.out.2.2.2.2.2; omega)), ?_⟩)
      simp only [Act.put, List.setIfInBounds_toArray, List.set_cons_zero, List.set_cons_succ]
      have hSn := row_keep hS (q1.2.2 _ (by have := HD.out.2.2.2.2.2; omega))
      have HDn := Lib.hid (HD.out.put (y := (drSet_bi (drSet_sq (drSet_id (drSet_li (withT (kdP (z 4)) A m cL) ((((numZ (fun j => z (10 + j)) 0 2).toNat : Nat) : Int))) ((fun j => z (12 + j)))) ((numZ (fun j => z (20 + j)) 0 4).toNat)) (z (26 + 0)))) q1)
      clear HD hS q1
      have HD := HDn
      have hS := hSn
      clear HDn hSn
      revert hS HD
      generalize Wn = Wq
      intro HD hS
      clear hS
      refine wpAnyH_done (by kernel_rfl) ?_ _
      go_wp2_with fail
      go_meet
      case rel => exact Lib.hid (HD.out.eq (swD_2 z A m cL))
    · as_aux_lemma =>
      clear hk hq
      have f15 : (z 4 == 15) = false := by rw [hk4]; rfl
      have f16 : (z 4 == 16) = false := by rw [hk4]; rfl
      have f17 : (z 4 == 17) = false := by rw [hk4]; rfl
      have f18 : (z 4 == 18) = false := by rw [hk4]; rfl
      have f20 : (z 4 == 20) = true := by rw [hk4]; rfl
      have f24 : (z 4 == 24) = false := by rw [hk4]; rfl
      have f25 : (z 4 == 25) = false := by rw [hk4]; rfl
      clear hk4
      have hHn : 27 ≤ n := by have : hdN 2 = 27 := rfl; omega
      clear hhq hh h17
      go_wp2_with fail
      have HDd := Lib.hid (HD.out.below (bself wq).drew)
      refine wp_region_held_drew (S := fun w' => Row8 w' b off n z) (by kernel_rfl) HDd.out.2.2.1 (fun hS => ?_)
      generalize hWq : wq.drew = Wq at hS HDd ⊢
      clear hWq HD
      have HD := HDd
      clear HDd
      refine takeY (i := 0) (some 93) (v := .slice (some ⟨b, off, none⟩) n c) rfl rfl (by kernel_rfl) (by kernel_rfl) (by kernel_rfl) (fun _ _ _ h => h) (by rfl) (fun w' hS => by go_simp) hS ?_
      simp only [Act.put, List.setIfInBounds_toArray, List.set_cons_zero, List.set_cons_succ]
      refine takeY (i := 1) (some 94) (v := .slice (some ⟨b, off + 10, none⟩) (n - 10) (c - 10)) rfl rfl (by kernel_rfl) (by kernel_rfl) (by kernel_rfl) (fun _ _ _ h => h) (by rfl) (fun w' hS => by exact slice_in _ _ _ (.tmp 93) b off n c 10 10 rfl rfl rfl rfl (by omega) hc (by omega)) hS ?_
      simp only [Act.put, List.setIfInBounds_toArray, List.set_cons_zero, List.set_cons_succ]
      refine takeY (i := 3) (some 96) (v := .slice (some ⟨b, off, none⟩) n c) rfl rfl (by kernel_rfl) (by kernel_rfl) (by kernel_rfl) (fun _ _ _ h => h) (by rfl) (fun w' hS => by go_simp) hS ?_
      simp only [Act.put, List.setIfInBounds_toArray, List.set_cons_zero, List.set_cons_succ]
      refine takeY (i := 4) (some 97) (v := .slice (some ⟨b, off + 12, none⟩) (n - 12) (c - 12)) rfl rfl (by kernel_rfl) (by kernel_rfl) (by kernel_rfl) (fun _ _ _ h => h) (by rfl) (fun w' hS => by exact slice_in _ _ _ (.tmp 96) b off n c 12 12 rfl rfl rfl rfl (by omega) hc (by omega)) hS ?_
      simp only [Act.put, List.setIfInBounds_toArray, List.set_cons_zero, List.set_cons_succ]
      refine takeY (i := 6) (some 99) (v := .slice (some ⟨b, off, none⟩) n c) rfl rfl (by kernel_rfl) (by kernel_rfl) (by kernel_rfl) (fun _ _ _ h => h) (by rfl) (fun w' hS => by go_simp) hS ?_
      simp only [Act.put, List.setIfInBounds_toArray, List.set_cons_zero, List.set_cons_succ]
      refine takeY (i := 7) (some 100) (v := .slice (some ⟨b, off + 20, none⟩) 4 (c - 20)) rfl rfl (by kernel_rfl) (by kernel_rfl) (by kernel_rfl) (fun _ _ _ h => h) (by rfl) (fun w' hS => by (have h1 : (24 : Int) ≤ (c : Int) := (by omega); have h2 : ¬ c = 20 := (by omega); clear hS; go_simp; first | done | (rw [if_pos h1, if_neg h2]))) hS ?_
      simp only [Act.put, List.setIfInBounds_toArray, List.set_cons_zero, List.set_cons_succ]
      refine takeY (i := 10) (some 103) (v := .slice (some ⟨b, off, none⟩) n c) rfl rfl (by kernel_rfl) (by kernel_rfl) (by kernel_rfl) (fun _ _ _ h => h) (by rfl) (fun w' hS => by go_simp) hS ?_
      simp only [Act.put, List.setIfInBounds_toArray, List.set_cons_zero, List.set_cons_succ]
      refine takeY (i := 11) (some 104) (v := .pointer (some ⟨b, off + 26, none⟩)) rfl rfl (by kernel_rfl) (by kernel_rfl) (by kernel_rfl) (fun _ _ _ h => h) (by rfl) (fun w' hS => by (have hx : (26 : Int) < (n : Int) := (by omega); clear hS; go_simp)) hS ?_
      simp only [Act.put, List.setIfInBounds_toArray, List.set_cons_zero, List.set_cons_succ]
      refine takeY (i := 12) (some 105) (v := .int .u8 (z 26)) rfl rfl (by kernel_rfl) (by kernel_rfl) (by kernel_rfl) (fun _ _ _ h => h) (by rfl) (fun w' hS => by (have c9 : w'.cell? ⟨b, off + 26, none⟩ = some (.int .u8 (z 26))   := (hS.2.1 26 (by omega)); clear hS; go_simp)) hS ?_
      simp only [Act.put, List.setIfInBounds_toArray, List.set_cons_zero, List.set_cons_succ]
      refine takeC (i := 2) (some 95) 77 #[.slice (some ⟨b, off + 10, none⟩) (n - 10) (c - 10)] (.int .i64 (((numZ (fun j => z (10 + j)) 0 2).toNat : Nat) : Int)) (R := fun w' => Below Wq.heap.size Wq w') rfl rfl (by kernel_rfl) (by rfl) (by go_simp) (number_two b (off + 10) (n - 10) (c - 10) (fun j => z (10 + j)) Wq (hS.shift 10 _ (by omega)) (by omega)) (fun w' hb => row_keep hS (hb.block _ hS.1)) (fun Wn hb1 hS2 => ?_)
      simp only [Act.put, List.setIfInBounds_toArray, List.set_cons_zero, List.set_cons_succ]
      have HDn := Lib.hid (HD.out.below hb1)
      clear HD hS hb1
      have HD := HDn
      have hS := hS2
      clear HDn hS2
      revert hS HD
      generalize Wn = Wq
      intro HD hS
      refine takeY (i := 13) (some 106) (v := .pointer (some ⟨P, 19, none⟩)) rfl rfl (by kernel_rfl) (by kernel_rfl) (by kernel_rfl) (fun _ _ _ h => h) (by rfl) (fun w' hS => by go_simp) hS ?_
      simp only [Act.put, List.setIfInBounds_toArray, List.set_cons_zero, List.set_cons_succ]
      refine takeC (i := 5) (some 98) 79 #[.slice (some ⟨b, off + 12, none⟩) (n - 12) (c - 12)] (.agg (idC (fun j => z (12 + j)))) (R := fun w' => Below Wq.heap.size Wq w') rfl rfl (by kernel_rfl) (by rfl) (by go_simp) (idAt_any b (off + 12) (n - 12) (c - 12) (fun j => z (12 + j)) Wq (hS.shift 12 _ (by omega)) (by omega) (by omega)) (fun w' hb => row_keep hS (hb.block _ hS.1)) (fun Wn hb1 hS2 => ?_)
      simp only [Act.put, List.setIfInBounds_toArray, List.set_cons_zero, List.set_cons_succ]
      have HDn := Lib.hid (HD.out.below hb1)
      clear HD hS hb1
      have HD := HDn
      have hS := hS2
      clear HDn hS2
      revert hS HD
      generalize Wn = Wq
      intro HD hS
      refine takeC (i := 8) (some 101) 80 #[.slice (some ⟨b, off + 20, none⟩) 4 (c - 20)] (.int .u64 (((numZ (fun j => z (20 + j)) 0 4).toNat : Nat) : Int)) (R := fun w' => Below Wq.heap.size Wq w') rfl rfl (by kernel_rfl) (by rfl) (by go_simp) (number_four b (off + 20) (c - 20) (fun j => z (20 + j)) Wq (hS.shift 20 4 (by omega))) (fun w' hb => row_keep hS (hb.block _ hS.1)) (fun Wn hb1 hS2 => ?_)
      simp only [Act.put, List.setIfInBounds_toArray, List.set_cons_zero, List.set_cons_succ]
      have HDn := Lib.hid (HD.out.below hb1)
      clear HD hS hb1
      have HD := HDn
      have hS := hS2
      clear HDn hS2
      revert hS HD
      generalize Wn = Wq
      intro HD hS
      refine takeY (i := 9) (some 102) (v := .int .u32 (((numZ (fun j => z (20 + j)) 0 4).toNat : Nat) : Int)) rfl rfl (by kernel_rfl) (by kernel_rfl) (by kernel_rfl) (fun _ _ _ h => h) (by rfl) (fun w' hS => by (have hq := num4_le z 20 (fun j => hS.2.2 j); clear hS; go_simp; simp [IntKind.wrap, IntKind.signed, IntKind.bits]; omega)) hS ?_
      simp only [Act.put, List.setIfInBounds_toArray, List.set_cons_zero, List.set_cons_succ]
      refine takeSt (i := 14) 3 (.tmp 106) (.tmp 95) P 19 (.int .i64 ((((numZ (fun j => z (10 + j)) 0 2).toNat : Nat) : Int))) #[.int .i64 ((((numZ (fun j => z (10 + j)) 0 2).toNat : Nat) : Int))] (pdC (drSet_li (withT (kdP (z 4)) A m cL) ((((numZ (fun j => z (10 + j)) 0 2).toNat : Nat) : Int)))) rfl rfl (by kernel_rfl) (by rfl) rfl rfl rfl rfl (by kernel_rfl) (by kernel_rfl) HD.out.1 (Nat.le_of_ble_eq_true rfl) (drPut_li _ _) (fun Wn q1 => ⟨row_keep hS (q1.2.2 _ (by have := HD.out.2.2.2.2.2; omega)), ?_⟩)
      simp only [Act.put, List.setIfInBounds_toArray, List.set_cons_zero, List.set_cons_succ]
      have hSn := row_keep hS (q1.2.2 _ (by have := HD.out.2.2.2.2.2; omega))
      have HDn := Lib.hid (HD.out.put (y := (drSet_li (withT (kdP (z 4)) A m cL) ((((numZ (fun j => z (10 + j)) 0 2).toNat : Nat) : Int)))) q1)
      clear HD hS q1
      have HD := HDn
      have hS := hSn
      clear HDn hSn
      revert hS HD
      generalize Wn = Wq
      intro HD hS
      refine takeY (i := 15) (some 107) (v := .pointer (some ⟨P, 20, none⟩)) rfl rfl (by kernel_rfl) (by kernel_rfl) (by kernel_rfl) (fun _ _ _ h => h) (by rfl) (fun w' hS => by go_simp) hS ?_
      simp only [Act.put, List.setIfInBounds_toArray, List.set_cons_zero, List.set_cons_succ]
      refine takeSt (i := 16) 38 (.tmp 107) (.tmp 98) P 20 (.agg (idC (fun j => z (12 + j)))) (idC (fun j => z (12 + j))) (pdC (drSet_id (drSet_li (withT (kdP (z 4)) A m cL) ((((numZ (fun j => z (10 + j)) 0 2).toNat : Nat) : Int))) ((fun j => z (12 + j))))) rfl rfl (by kernel_rfl) (by rfl) rfl rfl rfl rfl info_id (id_all _) HD.out.1 (Nat.le_of_ble_eq_true rfl) (drPut_id _ _) (fun Wn q1 => ⟨row_keep hS (q1.2.2 _ (by have := HD.out.2.2.2.2.2; omega)), ?_⟩)
      simp only [Act.put, List.setIfInBounds_toArray, List.set_cons_zero, List.set_cons_succ]
      have hSn := row_keep hS (q1.2.2 _ (by have := HD.out.2.2.2.2.2; omega))
      have HDn := Lib.hid (HD.out.put (y := (drSet_id (drSet_li (withT (kdP (z 4)) A m cL) ((((numZ (fun j => z (10 + j)) 0 2).toNat : Nat) : Int))) ((fun j => z (12 + j))))) q1)
      clear HD hS q1
      have HD := HDn
      have hS := hSn
      clear HDn hSn
      revert hS HD
      generalize Wn = Wq
      intro HD hS
      refine takeY (i := 17) (some 108) (v := .pointer (some ⟨P, 28, none⟩)) rfl rfl (by kernel_rfl) (by kernel_rfl) (by kernel_rfl) (fun _ _ _ h => h) (by rfl) (fun w' hS => by go_simp) hS ?_
      simp only [Act.put, List.setIfInBounds_toArray, List.set_cons_zero, List.set_cons_succ]
      refine takeSt (i := 18) 39 (.tmp 108) (.tmp 102) P 28 (.int .u32 (((numZ (fun j => z (20 + j)) 0 4).toNat : Nat) : Int)) #[.int .u32 (((numZ (fun j => z (20 + j)) 0 4).toNat : Nat) : Int)] (pdC (drSet_sq (drSet_id (drSet_li (withT (kdP (z 4)) A m cL) ((((numZ (fun j => z (10 + j)) 0 2).toNat : Nat) : Int))) ((fun j => z (12 + j)))) ((numZ (fun j => z (20 + j)) 0 4).toNat))) rfl rfl (by kernel_rfl) (by rfl) rfl rfl rfl rfl (by kernel_rfl) (by kernel_rfl) HD.out.1 (Nat.le_of_ble_eq_true rfl) (drPut_sq _ _) (fun Wn q1 => ⟨row_keep hS (q1.2.2 _ (by have := HD.out.2.2.2.2.2; omega)), ?_⟩)
      simp only [Act.put, List.setIfInBounds_toArray, List.set_cons_zero, List.set_cons_succ]
      have hSn := row_keep hS (q1.2.2 _ (by have := HD.out.2.2.2.2.2; omega))
      have HDn := Lib.hid (HD.out.put (y := (drSet_sq (drSet_id (drSet_li (withT (kdP (z 4)) A m cL) ((((numZ (fun j => z (10 + j)) 0 2).toNat : Nat) : Int))) ((fun j => z (12 + j)))) ((numZ (fun j => z (20 + j)) 0 4).toNat))) q1)
      clear HD hS q1
      have HD := HDn
      have hS := hSn
      clear HDn hSn
      revert hS HD
      generalize Wn = Wq
      intro HD hS
      refine takeY (i := 19) (some 109) (v := .pointer (some ⟨P, 29, none⟩)) rfl rfl (by kernel_rfl) (by kernel_rfl) (by kernel_rfl) (fun _ _ _ h => h) (by rfl) (fun w' hS => by go_simp) hS ?_
      simp only [Act.put, List.setIfInBounds_toArray, List.set_cons_zero, List.set_cons_succ]
      refine takeSt (i := 20) 5 (.tmp 109) (.tmp 105) P 29 (.int .u8 (z (26 + 0))) #[.int .u8 (z (26 + 0))] (pdC (drSet_bi (drSet_sq (drSet_id (drSet_li (withT (kdP (z 4)) A m cL) ((((numZ (fun j => z (10 + j)) 0 2).toNat : Nat) : Int))) ((fun j => z (12 + j)))) ((numZ (fun j => z (20 + j)) 0 4).toNat)) (z (26 + 0)))) rfl rfl (by kernel_rfl) (by rfl) rfl rfl rfl rfl (by kernel_rfl) (by kernel_rfl) HD.out.1 (Nat.le_of_ble_eq_true rfl) (drPut_bi _ _) (fun Wn q1 => ⟨row_keep hS (q1.2.2 _ (by have := HD.out.2.2.2.2.2; omega)), ?_⟩)
      simp only [Act.put, List.setIfInBounds_toArray, List.set_cons_zero, List.set_cons_succ]
      have hSn := row_keep hS (q1.2.2 _ (by have := HD.out.2.2.2.2.2; omega))
      have HDn := Lib.hid (HD.out.put (y := (drSet_bi (drSet_sq (drSet_id (drSet_li (withT (kdP (z 4)) A m cL) ((((numZ (fun j => z (10 + j)) 0 2).toNat : Nat) : Int))) ((fun j => z (12 + j)))) ((numZ (fun j => z (20 + j)) 0 4).toNat)) (z (26 + 0)))) q1)
      clear HD hS q1
      have HD := HDn
      have hS := hSn
      clear HDn hSn
      revert hS HD
      generalize Wn = Wq
      intro HD hS
      clear hS
      refine wpAnyH_done (by kernel_rfl) ?_ _
      go_wp2_with fail
      go_meet
      case rel => exact Lib.hid (HD.out.eq (swD_2 z A m cL))
    · as_aux_lemma =>
      clear hk hq
      have f15 : (z 4 == 15) = false := by rw [hk4]; rfl
      have f16 : (z 4 == 16) = false := by rw [hk4]; rfl
      have f17 : (z 4 == 17) = false := by rw [hk4]; rfl
      have f18 : (z 4 == 18) = false := by rw [hk4]; rfl
      have f20 : (z 4 == 20) = false := by rw [hk4]; rfl
      have f24 : (z 4 == 24) = true := by rw [hk4]; rfl
      have f25 : (z 4 == 25) = false := by rw [hk4]; rfl
      clear hk4
      have hHn : 33 ≤ n := by have : hdN 3 = 33 := rfl; omega
      clear hhq hh h17
      go_wp2_with fail
      have HDd := Lib.hid (HD.out.below (bself wq).drew)
      refine wp_region_held_drew (S := fun w' => Row8 w' b off n z) (by kernel_rfl) HDd.out.2.2.1 (fun hS => ?_)
      generalize hWq : wq.drew = Wq at hS HDd ⊢
      clear hWq HD
      have HD := HDd
      clear HDd
      refine takeY (i := 0) (some 113) (v := .slice (some ⟨b, off, none⟩) n c) rfl rfl (by kernel_rfl) (by kernel_rfl) (by kernel_rfl) (fun _ _ _ h => h) (by rfl) (fun w' hS => by go_simp) hS ?_
      simp only [Act.put, List.setIfInBounds_toArray, List.set_cons_zero, List.set_cons_succ]
      refine takeY (i := 1) (some 114) (v := .slice (some ⟨b, off + 10, none⟩) (n - 10) (c - 10)) rfl rfl (by kernel_rfl) (by kernel_rfl) (by kernel_rfl) (fun _ _ _ h => h) (by rfl) (fun w' hS => by exact slice_in _ _ _ (.tmp 113) b off n c 10 10 rfl rfl rfl rfl (by omega) hc (by omega)) hS ?_
      simp only [Act.put, List.setIfInBounds_toArray, List.set_cons_zero, List.set_cons_succ]
      refine takeY (i := 3) (some 116) (v := .slice (some ⟨b, off, none⟩) n c) rfl rfl (by kernel_rfl) (by kernel_rfl) (by kernel_rfl) (fun _ _ _ h => h) (by rfl) (fun w' hS => by go_simp) hS ?_
      simp only [Act.put, List.setIfInBounds_toArray, List.set_cons_zero, List.set_cons_succ]
      refine takeY (i := 4) (some 117) (v := .slice (some ⟨b, off + 17, none⟩) (n - 17) (c - 17)) rfl rfl (by kernel_rfl) (by kernel_rfl) (by kernel_rfl) (fun _ _ _ h => h) (by rfl) (fun w' hS => by exact slice_in _ _ _ (.tmp 116) b off n c 17 17 rfl rfl rfl rfl (by omega) hc (by omega)) hS ?_
      simp only [Act.put, List.setIfInBounds_toArray, List.set_cons_zero, List.set_cons_succ]
      refine takeY (i := 6) (some 119) (v := .slice (some ⟨b, off, none⟩) n c) rfl rfl (by kernel_rfl) (by kernel_rfl) (by kernel_rfl) (fun _ _ _ h => h) (by rfl) (fun w' hS => by go_simp) hS ?_
      simp only [Act.put, List.setIfInBounds_toArray, List.set_cons_zero, List.set_cons_succ]
      refine takeY (i := 7) (some 120) (v := .slice (some ⟨b, off + 25, none⟩) (n - 25) (c - 25)) rfl rfl (by kernel_rfl) (by kernel_rfl) (by kernel_rfl) (fun _ _ _ h => h) (by rfl) (fun w' hS => by exact slice_in _ _ _ (.tmp 119) b off n c 25 25 rfl rfl rfl rfl (by omega) hc (by omega)) hS ?_
      simp only [Act.put, List.setIfInBounds_toArray, List.set_cons_zero, List.set_cons_succ]
      refine takeC (i := 2) (some 115) 78 #[.slice (some ⟨b, off + 10, none⟩) (n - 10) (c - 10)] (.agg (ndC (fun j => z (10 + j)))) (R := fun w' => Below Wq.heap.size Wq w') rfl rfl (by kernel_rfl) (by rfl) (by go_simp) (nodeAt_any b (off + 10) (n - 10) (c - 10) (fun j => z (10 + j)) Wq (hS.shift 10 _ (by omega)) (by omega) (by omega)) (fun w' hb => row_keep hS (hb.block _ hS.1)) (fun Wn hb1 hS2 => ?_)
      simp only [Act.put, List.setIfInBounds_toArray, List.set_cons_zero, List.set_cons_succ]
      have HDn := Lib.hid (HD.out.below hb1)
      clear HD hS hb1
      have HD := HDn
      have hS := hS2
      clear HDn hS2
      revert hS HD
      generalize Wn = Wq
      intro HD hS
      refine takeY (i := 9) (some 122) (v := .pointer (some ⟨P, 2, none⟩)) rfl rfl (by kernel_rfl) (by kernel_rfl) (by kernel_rfl) (fun _ _ _ h => h) (by rfl) (fun w' hS => by go_simp) hS ?_
      simp only [Act.put, List.setIfInBounds_toArray, List.set_cons_zero, List.set_cons_succ]
      refine takeC (i := 5) (some 118) 79 #[.slice (some ⟨b, off + 17, none⟩) (n - 17) (c - 17)] (.agg (idC (fun j => z (17 + j)))) (R := fun w' => Below Wq.heap.size Wq w') rfl rfl (by kernel_rfl) (by rfl) (by go_simp) (idAt_any b (off + 17) (n - 17) (c - 17) (fun j => z (17 + j)) Wq (hS.shift 17 _ (by omega)) (by omega) (by omega)) (fun w' hb => row_keep hS (hb.block _ hS.1)) (fun Wn hb1 hS2 => ?_)
      simp only [Act.put, List.setIfInBounds_toArray, List.set_cons_zero, List.set_cons_succ]
      have HDn := Lib.hid (HD.out.below hb1)
      clear HD hS hb1
      have HD := HDn
      have hS := hS2
      clear HDn hS2
      revert hS HD
      generalize Wn = Wq
      intro HD hS
      refine takeC (i := 8) (some 121) 79 #[.slice (some ⟨b, off + 25, none⟩) (n - 25) (c - 25)] (.agg (idC (fun j => z (25 + j)))) (R := fun w' => Below Wq.heap.size Wq w') rfl rfl (by kernel_rfl) (by rfl) (by go_simp) (idAt_any b (off + 25) (n - 25) (c - 25) (fun j => z (25 + j)) Wq (hS.shift 25 _ (by omega)) (by omega) (by omega)) (fun w' hb => row_keep hS (hb.block _ hS.1)) (fun Wn hb1 hS2 => ?_)
      simp only [Act.put, List.setIfInBounds_toArray, List.set_cons_zero, List.set_cons_succ]
      have HDn := Lib.hid (HD.out.below hb1)
      clear HD hS hb1
      have HD := HDn
      have hS := hS2
      clear HDn hS2
      revert hS HD
      generalize Wn = Wq
      intro HD hS
      refine takeSt (i := 10) 36 (.tmp 122) (.tmp 115) P 2 (.agg (ndC (fun j => z (10 + j)))) (ndC (fun j => z (10 + j))) (pdC (drSet_so (withT (kdP (z 4)) A m cL) ((fun j => z (10 + j))))) rfl rfl (by kernel_rfl) (by rfl) rfl rfl rfl rfl info_node (nd_all _) HD.out.1 (Nat.le_of_ble_eq_true rfl) (drPut_so _ _) (fun Wn q1 => ⟨row_keep hS (q1.2.2 _ (by have := HD.out.2.2.2.2.2; omega)), ?_⟩)
      simp only [Act.put, List.setIfInBounds_toArray, List.set_cons_zero, List.set_cons_succ]
      have hSn := row_keep hS (q1.2.2 _ (by have := HD.out.2.2.2.2.2; omega))
      have HDn := Lib.hid (HD.out.put (y := (drSet_so (withT (kdP (z 4)) A m cL) ((fun j => z (10 + j))))) q1)
      clear HD hS q1
      have HD := HDn
      have hS := hSn
      clear HDn hSn
      revert hS HD
      generalize Wn = Wq
      intro HD hS
      refine takeY (i := 11) (some 123) (v := .pointer (some ⟨P, 30, none⟩)) rfl rfl (by kernel_rfl) (by kernel_rfl) (by kernel_rfl) (fun _ _ _ h => h) (by rfl) (fun w' hS => by go_simp) hS ?_
      simp only [Act.put, List.setIfInBounds_toArray, List.set_cons_zero, List.set_cons_succ]
      refine takeSt (i := 12) 38 (.tmp 123) (.tmp 118) P 30 (.agg (idC (fun j => z (17 + j)))) (idC (fun j => z (17 + j))) (pdC (drSet_st (drSet_so (withT (kdP (z 4)) A m cL) ((fun j => z (10 + j)))) ((fun j => z (17 + j))))) rfl rfl (by kernel_rfl) (by rfl) rfl rfl rfl rfl info_id (id_all _) HD.out.1 (Nat.le_of_ble_eq_true rfl) (drPut_st _ _) (fun Wn q1 => ⟨row_keep hS (q1.2.2 _ (by have := HD.out.2.2.2.2.2; omega)), ?_⟩)
      simp only [Act.put, List.setIfInBounds_toArray, List.set_cons_zero, List.set_cons_succ]
      have hSn := row_keep hS (q1.2.2 _ (by have := HD.out.2.2.2.2.2; omega))
      have HDn := Lib.hid (HD.out.put (y := (drSet_st (drSet_so (withT (kdP (z 4)) A m cL) ((fun j => z (10 + j)))) ((fun j => z (17 + j))))) q1)
      clear HD hS q1
      have HD := HDn
      have hS := hSn
      clear HDn hSn
      revert hS HD
      generalize Wn = Wq
      intro HD hS
      refine takeY (i := 13) (some 124) (v := .pointer (some ⟨P, 38, none⟩)) rfl rfl (by kernel_rfl) (by kernel_rfl) (by kernel_rfl) (fun _ _ _ h => h) (by rfl) (fun w' hS => by go_simp) hS ?_
      simp only [Act.put, List.setIfInBounds_toArray, List.set_cons_zero, List.set_cons_succ]
      refine takeSt (i := 14) 38 (.tmp 124) (.tmp 121) P 38 (.agg (idC (fun j => z (25 + j)))) (idC (fun j => z (25 + j))) (pdC (drSet_en (drSet_st (drSet_so (withT (kdP (z 4)) A m cL) ((fun j => z (10 + j)))) ((fun j => z (17 + j)))) ((fun j => z (25 + j))))) rfl rfl (by kernel_rfl) (by rfl) rfl rfl rfl rfl info_id (id_all _) HD.out.1 (Nat.le_of_ble_eq_true rfl) (drPut_en _ _) (fun Wn q1 => ⟨row_keep hS (q1.2.2 _ (by have := HD.out.2.2.2.2.2; omega)), ?_⟩)
      simp only [Act.put, List.setIfInBounds_toArray, List.set_cons_zero, List.set_cons_succ]
      have hSn := row_keep hS (q1.2.2 _ (by have := HD.out.2.2.2.2.2; omega))
      have HDn := Lib.hid (HD.out.put (y := (drSet_en (drSet_st (drSet_so (withT (kdP (z 4)) A m cL) ((fun j => z (10 + j)))) ((fun j => z (17 + j)))) ((fun j => z (25 + j))))) q1)
      clear HD hS q1
      have HD := HDn
      have hS := hSn
      clear HDn hSn
      revert hS HD
      generalize Wn = Wq
      intro HD hS
      clear hS
      refine wpAnyH_done (by kernel_rfl) ?_ _
      go_wp2_with fail
      go_meet
      case rel => exact Lib.hid (HD.out.eq (swD_3 z A m cL))
    · as_aux_lemma =>
      clear hk hq
      have f15 : (z 4 == 15) = false := by rw [hk4]; rfl
      have f16 : (z 4 == 16) = false := by rw [hk4]; rfl
      have f17 : (z 4 == 17) = false := by rw [hk4]; rfl
      have f18 : (z 4 == 18) = false := by rw [hk4]; rfl
      have f20 : (z 4 == 20) = false := by rw [hk4]; rfl
      have f24 : (z 4 == 24) = false := by rw [hk4]; rfl
      have f25 : (z 4 == 25) = true := by rw [hk4]; rfl
      clear hk4
      have hHn : 33 ≤ n := by have : hdN 3 = 33 := rfl; omega
      clear hhq hh h17
      go_wp2_with fail
      have HDd := Lib.hid (HD.out.below (bself wq).drew)
      refine wp_region_held_drew (S := fun w' => Row8 w' b off n z) (by kernel_rfl) HDd.out.2.2.1 (fun hS => ?_)
      generalize hWq : wq.drew = Wq at hS HDd ⊢
      clear hWq HD
      have HD := HDd
      clear HDd
      refine takeY (i := 0) (some 113) (v := .slice (some ⟨b, off, none⟩) n c) rfl rfl (by kernel_rfl) (by kernel_rfl) (by kernel_rfl) (fun _ _ _ h => h) (by rfl) (fun w' hS => by go_simp) hS ?_
      simp only [Act.put, List.setIfInBounds_toArray, List.set_cons_zero, List.set_cons_succ]
      refine takeY (i := 1) (some 114) (v := .slice (some ⟨b, off + 10, none⟩) (n - 10) (c - 10)) rfl rfl (by kernel_rfl) (by kernel_rfl) (by kernel_rfl) (fun _ _ _ h => h) (by rfl) (fun w' hS => by exact slice_in _ _ _ (.tmp 113) b off n c 10 10 rfl rfl rfl rfl (by omega) hc (by omega)) hS ?_
      simp only [Act.put, List.setIfInBounds_toArray, List.set_cons_zero, List.set_cons_succ]
      refine takeY (i := 3) (some 116) (v := .slice (some ⟨b, off, none⟩) n c) rfl rfl (by kernel_rfl) (by kernel_rfl) (by kernel_rfl) (fun _ _ _ h => h) (by rfl) (fun w' hS => by go_simp) hS ?_
      simp only [Act.put, List.setIfInBounds_toArray, List.set_cons_zero, List.set_cons_succ]
      refine takeY (i := 4) (some 117) (v := .slice (some ⟨b, off + 17, none⟩) (n - 17) (c - 17)) rfl rfl (by kernel_rfl) (by kernel_rfl) (by kernel_rfl) (fun _ _ _ h => h) (by rfl) (fun w' hS => by exact slice_in _ _ _ (.tmp 116) b off n c 17 17 rfl rfl rfl rfl (by omega) hc (by omega)) hS ?_
      simp only [Act.put, List.setIfInBounds_toArray, List.set_cons_zero, List.set_cons_succ]
      refine takeY (i := 6) (some 119) (v := .slice (some ⟨b, off, none⟩) n c) rfl rfl (by kernel_rfl) (by kernel_rfl) (by kernel_rfl) (fun _ _ _ h => h) (by rfl) (fun w' hS => by go_simp) hS ?_
      simp only [Act.put, List.setIfInBounds_toArray, List.set_cons_zero, List.set_cons_succ]
      refine takeY (i := 7) (some 120) (v := .slice (some ⟨b, off + 25, none⟩) (n - 25) (c - 25)) rfl rfl (by kernel_rfl) (by kernel_rfl) (by kernel_rfl) (fun _ _ _ h => h) (by rfl) (fun w' hS => by exact slice_in _ _ _ (.tmp 119) b off n c 25 25 rfl rfl rfl rfl (by omega) hc (by omega)) hS ?_
      simp only [Act.put, List.setIfInBounds_toArray, List.set_cons_zero, List.set_cons_succ]
      refine takeC (i := 2) (some 115) 78 #[.slice (some ⟨b, off + 10, none⟩) (n - 10) (c - 10)] (.agg (ndC (fun j => z (10 + j)))) (R := fun w' => Below Wq.heap.size Wq w') rfl rfl (by kernel_rfl) (by rfl) (by go_simp) (nodeAt_any b (off + 10) (n - 10) (c - 10) (fun j => z (10 + j)) Wq (hS.shift 10 _ (by omega)) (by omega) (by omega)) (fun w' hb => row_keep hS (hb.block _ hS.1)) (fun Wn hb1 hS2 => ?_)
      simp only [Act.put, List.setIfInBounds_toArray, List.set_cons_zero, List.set_cons_succ]
      have HDn := Lib.hid (HD.out.below hb1)
      clear HD hS hb1
      have HD := HDn
      have hS := hS2
      clear HDn hS2
      revert hS HD
      generalize Wn = Wq
      intro HD hS
      refine takeY (i := 9) (some 122) (v := .pointer (some ⟨P, 2, none⟩)) rfl rfl (by kernel_rfl) (by kernel_rfl) (by kernel_rfl) (fun _ _ _ h => h) (by rfl) (fun w' hS => by go_simp) hS ?_
      simp only [Act.put, List.setIfInBounds_toArray, List.set_cons_zero, List.set_cons_succ]
      refine takeC (i := 5) (some 118) 79 #[.slice (some ⟨b, off + 17, none⟩) (n - 17) (c - 17)] (.agg (idC (fun j => z (17 + j)))) (R := fun w' => Below Wq.heap.size Wq w') rfl rfl (by kernel_rfl) (by rfl) (by go_simp) (idAt_any b (off + 17) (n - 17) (c - 17) (fun j => z (17 + j)) Wq (hS.shift 17 _ (by omega)) (by omega) (by omega)) (fun w' hb => row_keep hS (hb.block _ hS.1)) (fun Wn hb1 hS2 => ?_)
      simp only [Act.put, List.setIfInBounds_toArray, List.set_cons_zero, List.set_cons_succ]
      have HDn := Lib.hid (HD.out.below hb1)
      clear HD hS hb1
      have HD := HDn
      have hS := hS2
      clear HDn hS2
      revert hS HD
      generalize Wn = Wq
      intro HD hS
      refine takeC (i := 8) (some 121) 79 #[.slice (some ⟨b, off + 25, none⟩) (n - 25) (c - 25)] (.agg (idC (fun j => z (25 + j)))) (R := fun w' => Below Wq.heap.size Wq w') rfl rfl (by kernel_rfl) (by rfl) (by go_simp) (idAt_any b (off + 25) (n - 25) (c - 25) (fun j => z (25 + j)) Wq (hS.shift 25 _ (by omega)) (by omega) (by omega)) (fun w' hb => row_keep hS (hb.block _ hS.1)) (fun Wn hb1 hS2 => ?_)
      simp only [Act.put, List.setIfInBounds_toArray, List.set_cons_zero, List.set_cons_succ]
      have HDn := Lib.hid (HD.out.below hb1)
      clear HD hS hb1
      have HD := HDn
      have hS := hS2
      clear HDn hS2
      revert hS HD
      generalize Wn = Wq
      intro HD hS
      refine takeSt (i := 10) 36 (.tmp 122) (.tmp 115) P 2 (.agg (ndC (fun j => z (10 + j)))) (ndC (fun j => z (10 + j))) (pdC (drSet_so (withT (kdP (z 4)) A m cL) ((fun j => z (10 + j))))) rfl rfl (by kernel_rfl) (by rfl) rfl rfl rfl rfl info_node (nd_all _) HD.out.1 (Nat.le_of_ble_eq_true rfl) (drPut_so _ _) (fun Wn q1 => ⟨row_keep hS (q1.2.2 _ (by have := HD.out.2.2.2.2.2; omega)), ?_⟩)
      simp only [Act.put, List.setIfInBounds_toArray, List.set_cons_zero, List.set_cons_succ]
      have hSn := row_keep hS (q1.2.2 _ (by have := HD.out.2.2.2.2.2; omega))
      have HDn := Lib.hid (HD.out.put (y := (drSet_so (withT (kdP (z 4)) A m cL) ((fun j => z (10 + j))))) q1)
      clear HD hS q1
      have HD := HDn
      have hS := hSn
      clear HDn hSn
      revert hS HD
      generalize Wn = Wq
      intro HD hS
      refine takeY (i := 11) (some 123) (v := .pointer (some ⟨P, 30, none⟩)) rfl rfl (by kernel_rfl) (by kernel_rfl) (by kernel_rfl) (fun _ _ _ h => h) (by rfl) (fun w' hS => by go_simp) hS ?_
      simp only [Act.put, List.setIfInBounds_toArray, List.set_cons_zero, List.set_cons_succ]
      refine takeSt (i := 12) 38 (.tmp 123) (.tmp 118) P 30 (.agg (idC (fun j => z (17 + j)))) (idC (fun j => z (17 + j))) (pdC (drSet_st (drSet_so (withT (kdP (z 4)) A m cL) ((fun j => z (10 + j)))) ((fun j => z (17 + j))))) rfl rfl (by kernel_rfl) (by rfl) rfl rfl rfl rfl info_id (id_all _) HD.out.1 (Nat.le_of_ble_eq_true rfl) (drPut_st _ _) (fun Wn q1 => ⟨row_keep hS (q1.2.2 _ (by have := HD.out.2.2.2.2.2; omega)), ?_⟩)
      simp only [Act.put, List.setIfInBounds_toArray, List.set_cons_zero, List.set_cons_succ]
      have hSn := row_keep hS (q1.2.2 _ (by have := HD.out.2.2.2.2.2; omega))
      have HDn := Lib.hid (HD.out.put (y := (drSet_st (drSet_so (withT (kdP (z 4)) A m cL) ((fun j => z (10 + j)))) ((fun j => z (17 + j))))) q1)
      clear HD hS q1
      have HD := HDn
      have hS := hSn
      clear HDn hSn
      revert hS HD
      generalize Wn = Wq
      intro HD hS
      refine takeY (i := 13) (some 124) (v := .pointer (some ⟨P, 38, none⟩)) rfl rfl (by kernel_rfl) (by kernel_rfl) (by kernel_rfl) (fun _ _ _ h => h) (by rfl) (fun w' hS => by go_simp) hS ?_
      simp only [Act.put, List.setIfInBounds_toArray, List.set_cons_zero, List.set_cons_succ]
      refine takeSt (i := 14) 38 (.tmp 124) (.tmp 121) P 38 (.agg (idC (fun j => z (25 + j)))) (idC (fun j => z (25 + j))) (pdC (drSet_en (drSet_st (drSet_so (withT (kdP (z 4)) A m cL) ((fun j => z (10 + j)))) ((fun j => z (17 + j)))) ((fun j => z (25 + j))))) rfl rfl (by kernel_rfl) (by rfl) rfl rfl rfl rfl info_id (id_all _) HD.out.1 (Nat.le_of_ble_eq_true rfl) (drPut_en _ _) (fun Wn q1 => ⟨row_keep hS (q1.2.2 _ (by have := HD.out.2.2.2.2.2; omega)), ?_⟩)
      simp only [Act.put, List.setIfInBounds_toArray, List.set_cons_zero, List.set_cons_succ]
      have hSn := row_keep hS (q1.2.2 _ (by have := HD.out.2.2.2.2.2; omega))
      have HDn := Lib.hid (HD.out.put (y := (drSet_en (drSet_st (drSet_so (withT (kdP (z 4)) A m cL) ((fun j => z (10 + j)))) ((fun j => z (17 + j)))) ((fun j => z (25 + j))))) q1)
      clear HD hS q1
      have HD := HDn
      have hS := hSn
      clear HDn hSn
      revert hS HD
      generalize Wn = Wq
      intro HD hS
      clear hS
      refine wpAnyH_done (by kernel_rfl) ?_ _
      go_wp2_with fail
      go_meet
      case rel => exact Lib.hid (HD.out.eq (swD_3 z A m cL))
    · as_aux_lemma =>
      clear hk hq
      have f15 : (z 4 == 15) = false := by rw [hk4]; rfl
      have f16 : (z 4 == 16) = false := by rw [hk4]; rfl
      have f17 : (z 4 == 17) = false := by rw [hk4]; rfl
      have f18 : (z 4 == 18) = false := by rw [hk4]; rfl
      have f20 : (z 4 == 20) = false := by rw [hk4]; rfl
      have f24 : (z 4 == 24) = false := by rw [hk4]; rfl
      have f25 : (z 4 == 25) = false := by rw [hk4]; rfl
      clear hk4
      have hHn : 17 ≤ n := by have : hdN 4 = 17 := rfl; omega
      clear hhq hh h17
      skip
      have hRW := HD.out.2.2.1
      go_wp2_with (refine wpList_v (op := ⟨some 54, _, _, _, _, _⟩) rfl _ (slice_in _ _ _ (.tmp 53) b off n c 10 10 rfl rfl rfl rfl (by omega) hc (by omega)) ?_)
      refine (nodeAt_any b (off + 10) (n - 10) (c - 10) (fun j => z (10 + j)) wq (hRW.shift 10 _ (by omega)) (by omega) (by omega)).mono ?_
      rintro e w6 ⟨rfl, hb⟩
      have HD6 := Lib.hid (HD.out.below hb)
      clear HD hb hRW
      go_wp2_with (refine wpList_st rfl 36 (.tmp 56) (.tmp 55) rfl P 2 rfl (.agg (ndC (fun j => z (10 + j)))) (ndC (fun j => z (10 + j))) rfl rfl info_node (nd_all _) HD6.out.1 (Nat.le_of_ble_eq_true rfl) (C' := pdC (drSet_so (withT (kdP (z 4)) A m cL) (fun j => z (10 + j)))) (by kernel_rfl) ?_; intro w7 hst7; refine Hid.out ?_)
      refine Lib.hid ?_
      have HD := Lib.hid (HD6.out.put (y := (drSet_so (withT (kdP (z 4)) A m cL) (fun j => z (10 + j)))) hst7)
      clear hst7 HD6
      go_wp2_with fail
      go_meet
      case rel => exact Lib.hid (HD.out.eq (swD_4 z A m cL))
    · as_aux_lemma =>
      clear hk hq
      have f15 : (z 4 == 15) = false := by rw [hk4]; rfl
      have f16 : (z 4 == 16) = false := by rw [hk4]; rfl
      have f17 : (z 4 == 17) = false := by rw [hk4]; rfl
      have f18 : (z 4 == 18) = false := by rw [hk4]; rfl
      have f20 : (z 4 == 20) = false := by rw [hk4]; rfl
      have f24 : (z 4 == 24) = false := by rw [hk4]; rfl
      have f25 : (z 4 == 25) = false := by rw [hk4]; rfl
      clear hk4
      have hHn : 17 ≤ n := by have : hdN 4 = 17 := rfl; omega
      clear hhq hh h17
      skip
      have hRW := HD.out.2.2.1
      go_wp2_with (refine wpList_v (op := ⟨some 54, _, _, _, _, _⟩) rfl _ (slice_in _ _ _ (.tmp 53) b off n c 10 10 rfl rfl rfl rfl (by omega) hc (by omega)) ?_)
      refine (nodeAt_any b (off + 10) (n - 10) (c - 10) (fun j => z (10 + j)) wq (hRW.shift 10 _ (by omega)) (by omega) (by omega)).mono ?_
      rintro e w6 ⟨rfl, hb⟩
      have HD6 := Lib.hid (HD.out.below hb)
      clear HD hb hRW
      go_wp2_with (refine wpList_st rfl 36 (.tmp 56) (.tmp 55) rfl P 2 rfl (.agg (ndC (fun j => z (10 + j)))) (ndC (fun j => z (10 + j))) rfl rfl info_node (nd_all _) HD6.out.1 (Nat.le_of_ble_eq_true rfl) (C' := pdC (drSet_so (withT (kdP (z 4)) A m cL) (fun j => z (10 + j)))) (by kernel_rfl) ?_; intro w7 hst7; refine Hid.out ?_)
      refine Lib.hid ?_
      have HD := Lib.hid (HD6.out.put (y := (drSet_so (withT (kdP (z 4)) A m cL) (fun j => z (10 + j)))) hst7)
      clear hst7 HD6
      go_wp2_with fail
      go_meet
      case rel => exact Lib.hid (HD.out.eq (swD_4 z A m cL))
  case rest =>
  clear HD c0
  have HD := hcut
  clear hcut
  have c0 : wc.cell? ⟨P, 0, none⟩ = some (.int .u8 (z 4)) := (HD.out.1.cell 0).trans (by rw [pdC_0, swP_kd])
  have HHE := Lib.hid (hello_q (z 4) q HKQ.out.1 HKQ.out.2)
  obtain ⟨bh, hbh⟩ : ∃ bh, decide (q ≤ 1) = bh := ⟨_, rfl⟩
  rw [hbh] at HHE
  have HBH := Lib.hid hbh
  clear hbh
  go_wp2_with fail
  refine (HHE.out _).mono ?_
  rintro e wx ⟨rfl, rfl⟩
  go_upto_if 127 with fail
  go_cut [] (fun wd => Hid (DrS w P X b off n z B A m cL L (withT (rdP q z) A m cL) wd))
  case first =>
    clear c0 HH HM HI HPS HAN fl1 fl8 fl9 fH f30 HHE
    cases bh with
    | true =>
      have hq1 : q ≤ 1 := of_decide_eq_true HBH.out
      have hhq := HHQ.out
      have hRW := HD.out.2.2.1
      have hHn : 20 ≤ n := by
        rcases (by omega : q = 0 ∨ q = 1) with rfl | rfl
        · have : hdN 0 = 20 := rfl
          omega
        · have : hdN 1 = 27 := rfl
          omega
      clear hhq hh h17 HHQ HKQ HBH
      go_wp2_with (refine wpList_v (op := ⟨some 129, _, _, _, _, _⟩) rfl _ (slice_in _ _ _ (.tmp 128) b off n c 9 9 rfl rfl rfl rfl (by omega) hc (by omega)) ?_)
      refine (nodeAt_any b (off + 9) (n - 9) (c - 9) (fun j => z (9 + j)) wc (hRW.shift 9 _ (by omega)) (by omega) (by omega)).mono ?_
      rintro e w6 ⟨rfl, hb⟩
      have HD6 := Lib.hid (HD.out.below hb)
      clear HD hb hRW
      go_wp2_with (refine wpList_st rfl 36 (.tmp 131) (.tmp 130) rfl P 2 rfl (.agg (ndC (fun j => z (9 + j)))) (ndC (fun j => z (9 + j))) rfl rfl info_node (nd_all _) HD6.out.1 (Nat.le_of_ble_eq_true rfl) (C' := pdC (setSo (swP q z A m cL) (fun j => z (9 + j)))) (by kernel_rfl) ?_; intro w7 hst7; refine Hid.out ?_)
      refine Lib.hid ?_
      have HD7 := Lib.hid (HD6.out.put (y := setSo (swP q z A m cL) (fun j => z (9 + j))) hst7)
      clear hst7 HD6
      go_wp2_with (refine wpList_st rfl 5 (.tmp 133) (.const (.int .u8 0)) rfl P 8 rfl (.int .u8 0) #[.int .u8 0] rfl rfl (by kernel_rfl) (by kernel_rfl) HD7.out.1 (Nat.le_of_ble_eq_true rfl) (C' := pdC (setSo (swP q z A m cL) (cutSys (fun j => z (9 + j))))) (by kernel_rfl) ?_; intro w8 hst8; refine Hid.out ?_)
      refine Lib.hid ?_
      have HD8 := Lib.hid (HD7.out.put (y := setSo (swP q z A m cL) (cutSys (fun j => z (9 + j)))) hst8)
      clear hst8 HD7
      go_wp2_with fail
      go_meet
      case rel => exact Lib.hid (HD8.out.eq (by rcases (by omega : q = 0 ∨ q = 1) with rfl | rfl <;> kernel_rfl))
    | false =>
      have hq1 : ¬ q ≤ 1 := of_decide_eq_false HBH.out
      clear HBH
      go_wp2_with fail
      go_meet
      case rel => exact Lib.hid (HD.out.eq (by unfold swP; rw [if_neg (by omega), if_neg (by omega)]))
  case rest =>
  clear HD c0 HHE HBH
  have HD := hcut
  clear hcut
  obtain ⟨x, hx⟩ : ∃ x, withT (rdP q z) A m cL = x := ⟨_, rfl⟩
  rw [hx] at HD
  have hxk : x.kd = z 4 := by rw [← hx]; exact rdP_kd q z
  have hxok : PdOk x := by rw [← hx]; exact rdP_ok q HKQ.out.2 z HD.out.2.2.1.2.2
  have hxf : fitP x q = fitP (rdP q z) q := by rw [← hx]; exact fit_withT _ _ _ _ _
  have hxm : x.A = A ∧ x.m = m ∧ x.c = cL := by rw [← hx]; exact ⟨rfl, rfl, rfl⟩
  have HX := Lib.hid hx
  have HXK := Lib.hid hxk
  have HXO := Lib.hid hxok
  have HXM := Lib.hid hxm
  clear hx hxk hxok hxm
  have HF := refFields_any x q (by rw [HXK.out]; exact HKQ.out.1) HKQ.out.2 HXO.out
  obtain ⟨r, hr⟩ : ∃ r, fitP (rdP q z) q = r := ⟨_, rfl⟩
  rw [hr] at hxf
  rw [hxf] at HF
  have HF := Lib.hid HF
  have HRR := Lib.hid hr
  have HXF := Lib.hid hxf
  clear hr hxf
  go_wp2_with (refine wpList_ldr (op := ⟨some 134, _, _, _, _, _⟩) (by rfl) 42 (.tmp 4) rfl P 0 rfl (pdC x) _ (PdT.all (t := 42) (p := x) HD.out.1) Tryd.underlying42 rfl info_pdR ?_; refine Hid.out ?_)
  refine Lib.hid ?_
  go_wp2_with fail
  refine (HF.out _).mono ?_
  rintro e wf ⟨rfl, hb⟩
  have HDn := Lib.hid (HD.out.below hb)
  clear HD hb HF
  have HD := HDn
  clear HDn
  cases r with
  | false =>
    have HX4 := Lib.hid HD.out.2.1
    have HB4 := Lib.hid HD.out.2.2.2.1
    go_wp2_with (first
      | (refine wpList_v (op := ⟨some 137, _, _, _, _, _⟩) rfl _ (build_0d _ _ rfl _) ?_)
      | (refine wpList_st rfl 42 (.tmp 2) (.tmp 137) rfl X 0 rfl (.agg (pdC pd0)) (pdC pd0) rfl rfl info_pdR (pdC_one _) HX4.out (Nat.le_of_ble_eq_true rfl) (pd_all _ _) ?_; intro w2 hst2; refine Hid.out ?_))
    refine Lib.hid ?_
    have HX2 : Hid (PdT 42 w2 X pd0) := Lib.hid hst2.1
    have HB2 : Hid (Below w.heap.size w w2) := Lib.hid (HB4.out.trans (hst2.2.1 _ hXle))
    clear hst2
    go_wp2_with fail
    refine bodyPost_ret (results_dr rfl _ w2 X pd0 (.int .i64 3) rfl HX2.out rfl) rfl (.inl ⟨fun h => Bool.noConfusion (HRR.out.symm.trans h.2.1), rfl, HB2.out⟩)
  | true =>
    have hsz : sz L m = n - H := (sz_it HI.out m (Nat.le_refl _)).trans HPS.out
    have hbad := good_it (z := tlZ q z) (fun j => HD.out.2.2.1.2.2 _) HI.out (by rw [HPS.out]; omega)
    have HW := Lib.hid (fun W (hin : PdIn W x L) => refWrite_any x q (by rw [HXK.out]; exact HKQ.out.1) HKQ.out.2 HXO.out HXF.out L (by rw [HXM.out.2.1]; exact hbad) (by rw [HXM.out.2.1, hsz, HHQ.out]; omega) W hin)
    rw [HXM.out.2.1, hsz, HHQ.out, show H + (n - H) = n by omega] at HW
    have HBI := Lib.hid (back_iff q HKQ.out.2 z n m L A cL HKQ.out.1 h8 (by rw [HHQ.out]; exact hh) hn2 HD.out.2.2.1.2.2 HI.out (by rw [HHQ.out]; exact HPS.out))
    have HAI := Lib.hid (fun (h2 : q = 2) => all_iff x L n (by subst h2; have : hdN 2 = 27 := rfl; have := HHQ.out; omega) (by rw [HXM.out.2.1, hsz]; subst h2; have := HHQ.out; omega) z)
    rw [HX.out] at HBI
    obtain ⟨y, hy⟩ : ∃ y, pdZ x q L = y := ⟨_, rfl⟩
    rw [hy] at HW HBI
    have HY := Lib.hid hy
    clear hsz hbad hy
    go_wp2_with (refine wpList_ldr (op := ⟨some 138, _, _, _, _, _⟩) (by rfl) 42 (.tmp 4) rfl P 0 rfl (pdC x) _ (PdT.all (t := 42) (p := x) HD.out.1) Tryd.underlying42 rfl info_pdR ?_; refine Hid.out ?_)
    refine Lib.hid ?_
    go_wp2_with fail
    refine (HW.out _ (by
      have hoT := HD.out.2.2.2.2.1
      obtain ⟨A9, c9, e9, h1, h2, _, h4⟩ := hoT.shape
      cases e9
      exact ⟨by rw [HXM.out.1, HXM.out.2.1]; exact h4, by rw [HXM.out.2.1, HXM.out.2.2]; exact h1, by rw [HXM.out.2.2]; exact Nat.le_trans h2 (by decide)⟩)).mono ?_
    rintro e wg ⟨g1, c1, rfl, hg1, hO1, hb⟩
    have HDn := Lib.hid (HD.out.below hb)
    have HO1 := Lib.hid hO1
    have hsg := hb.size
    clear HD hb HW hO1
    have HD := HDn
    clear HDn
    go_wp2_with fail
    refine (twin_any (some ⟨b, off, none⟩) n c z wg ⟨.inr ⟨b, off, rfl, HD.out.2.2.1⟩, HD.out.2.2.1.2.2⟩ (fun h => by cases h) (by omega)).mono ?_
    rintro e wh ⟨g2, c2, rfl, hg2, hO2, hb⟩
    have HDn := Lib.hid (HD.out.below hb)
    have HO1n := Lib.hid (HO1.out.below hb HO1.out.lt)
    have HO2 := Lib.hid hO2
    have hg12 : g1 ≠ g2 := by have := HO1.out.lt; omega
    have hPg : P ≠ g2 ∧ b ≠ g2 ∧ X ≠ g2 := by have := HD.out.1.lt; have := HD.out.2.2.2.2.2; omega
    have hwg2 : w.heap.size ≤ g2 := by have := HD.out.2.2.2.1.size; omega
    have HDg := HD
    have HO1g := HO1
    have HBg := Lib.hid hb
    clear HD HO1 hb hO2
    have HD := HDn
    have HO1 := HO1n
    clear HDn HO1n
    have c0 : wh.cell? ⟨P, 0, none⟩ = some (.int .u8 (z 4)) := (HD.out.1.cell 0).trans (by rw [pdC_0, HXK.out])
    have HLE := Lib.hid (lsp_q (z 4) q HKQ.out.1 HKQ.out.2)
    obtain ⟨bl, hbl⟩ : ∃ bl, decide (q = 2) = bl := ⟨_, rfl⟩
    rw [hbl] at HLE
    have HBL := Lib.hid hbl
    clear hbl
    go_wp2_with fail
    refine (HLE.out _).mono ?_
    rintro e wx ⟨rfl, rfl⟩
    go_upto_if 144 with fail
    go_cut [] (fun wi => ∃ yz, Hid (∀ j, j < n → (q = 2 → j ≠ 24 ∧ j ≠ 25) → yz j = z j) ∧ Hid (q = 2 → yz 24 = y 24 ∧ yz 25 = y 25) ∧ Hid (Rd wi (some ⟨g1, 0, none⟩) n y) ∧ Hid (Rd wi (some ⟨g2, 0, none⟩) n yz) ∧ Hid (DrS w P X b off n z B A m cL L x wi))
    case first =>
      cases bl with
      | true =>
        have hq2 : q = 2 := of_decide_eq_true HBL.out
        have hHn : 27 ≤ n := by
          have := HHQ.out
          subst hq2
          have : hdN 2 = 27 := rfl
          omega
        have yb := HO1.out.2
        have c24 := own_at HO1.out 24 (by omega)
        have c25 := own_at HO1.out 25 (by omega)
        have d24 := own_at HO2.out 24 (by omega)
        have d25 := own_at HO2.out 25 (by omega)
        have f2 := Own8.free HO2.out
        clear HH HM HI HPS HAN fl1 fl8 fl9 fH f30 HLE HBL HBI HAI c0
        go_upto_region 31 with fail
        go_region
        all_goals (go_wp2_with fail)
        all_goals go_meet
        case rel =>
          obtain ⟨yz, l1, l2, l3, l4, l5⟩ := lay_two q HDg.out HO1g.out HBg.out HO2.out hg2 hHn
          exact ⟨yz, Lib.hid fun j hj hc2 => l1.out j hj hc2 hq2, l2, l3, l4, l5⟩
      | false =>
        have hq2 : ¬ q = 2 := of_decide_eq_false HBL.out
        clear HBL
        go_wp2_with fail
        go_meet
        case rel => exact ⟨z, Lib.hid fun _ _ _ => rfl, Lib.hid fun h => absurd h hq2, Lib.hid HO1.out.rd, Lib.hid HO2.out.rd, HD⟩
    case rest =>
    clear HD c0 HLE HBL HO1 HO2 HDg HO1g HBg
    obtain ⟨yz, HYZ, HYC, HR1, HR2, HDi⟩ := hcut
    have HP := Lib.hid HDi.out.1
    have HX0 := Lib.hid HDi.out.2.1
    have HRW := Lib.hid HDi.out.2.2.1
    have HB := Lib.hid HDi.out.2.2.2.1
    have HOT := Lib.hid HDi.out.2.2.2.2.1
    have hPB := HDi.out.2.2.2.2.2
    clear HDi
    go_wp2_with fail
    by_cases hE : FormOk z n
    · have hE1 := HBI.out.2 hE
      have hsame : ∀ j, j < n → y j = yz j := fun j hj => by
        by_cases hc2 : q = 2 → j ≠ 24 ∧ j ≠ 25
        · rw [hE1 j hj hc2, HYZ.out j hj hc2]
        · have hq2 : q = 2 := Classical.byContradiction fun h => hc2 fun h' => absurd h' h
          obtain ⟨e1, e2⟩ := HYC.out hq2
          by_cases h24 : j = 24
          · rw [h24, e1]
          · by_cases h25 : j = 25
            · rw [h25, e2]
            · exact absurd (fun _ => ⟨h24, h25⟩) hc2
      refine (same_yes (some ⟨g1, 0, none⟩) (some ⟨g2, 0, none⟩) n c1 c2 y yz _ HR1.out HR2.out hsame (by omega)).mono ?_
      rintro e wj ⟨rfl, k1, rfl⟩
      have hbd := below_drewN wc k1
      have HPn := Lib.hid (HP.out.below hbd HP.out.lt)
      have HX0n := Lib.hid (HX0.out.below hbd HX0.out.lt)
      have HRWn := Lib.hid (row_keep HRW.out (hbd.block _ HRW.out.1))
      have HBn := Lib.hid (HB.out.trans (hbd.mono HB.out.size))
      have HOTn := Lib.hid (HOT.out.below hbd)
      have HR1n := Lib.hid (HR1.out.below hbd rfl)
      obtain ⟨wj, hwj⟩ : ∃ wj, wc.drewN k1 = wj := ⟨_, rfl⟩
      rw [hwj] at HPn HX0n HRWn HBn HOTn HR1n ⊢
      clear hwj hbd HP HX0 HRW HB HOT HR1 HR2 hsame
      go_wp2_with fail
      have hall : (∀ j, j < n → y j = z j) ↔ (q = 2 → rightB (fun j => z (12 + j)) 12 (n - 12) = true) := by
        by_cases hq2 : q = 2
        · have h1 := HAI.out hq2 (fun j hj hne => by rw [← hq2, HY.out]; exact hE1 j hj (fun _ => hne))
          rw [← hq2, HY.out] at h1
          rw [h1]
          exact ⟨fun h _ => h, fun h => h hq2⟩
        · exact ⟨fun _ h => absurd h hq2, fun _ j hj => hE1 j hj (fun h => absurd h hq2)⟩
      have hOk : DrOk q z n m := ⟨by rw [HHQ.out]; exact HPS.out, HRR.out, hE⟩
      by_cases hS : ∀ j, j < n → y j = z j
      · refine (same_yes (some ⟨g1, 0, none⟩) (some ⟨b, off, none⟩) n c1 c y z _ HR1n.out ⟨.inr ⟨b, off, rfl, HRWn.out⟩, HRWn.out.2.2⟩ hS (by omega)).mono ?_
        rintro e wk ⟨rfl, k2, rfl⟩
        have hbd := below_drewN wj k2
        have HPm := Lib.hid (HPn.out.below hbd HPn.out.lt)
        have HX0m := Lib.hid (HX0n.out.below hbd HX0n.out.lt)
        have HBm := Lib.hid (HBn.out.trans (hbd.mono HBn.out.size))
        have HOTm := Lib.hid (HOTn.out.below hbd)
        obtain ⟨wk, hwk⟩ : ∃ wk, wj.drewN k2 = wk := ⟨_, rfl⟩
        rw [hwk] at HPm HX0m HBm HOTm ⊢
        have hR := hall.1 hS
        clear hwk hbd HPn HX0n HRWn HBn HOTn HR1n
        go_wp2_with (first
          | (refine wpList_ldr (op := ⟨some 165, _, _, _, _, _⟩) (by rfl) 42 (.tmp 4) rfl P 0 rfl (pdC x) _ (PdT.all (t := 42) (p := x) HPm.out) Tryd.underlying42 rfl info_pdR ?_)
          | (refine wpList_st rfl 42 (.tmp 2) (.tmp 165) rfl X 0 rfl (.agg (pdC x)) (pdC x) rfl rfl info_pdR (pdC_one _) HX0m.out (Nat.le_of_ble_eq_true rfl) (pd_all _ _) ?_; intro wl hstl; refine Hid.out ?_))
        refine Lib.hid ?_
        have HXl : Hid (PdT 42 wl X x) := Lib.hid hstl.1
        have HBl : Hid (Below w.heap.size w wl) := Lib.hid (HBm.out.trans (hstl.2.1 _ hXle))
        have HOTl : Hid (OwnT wl B (.slice A m cL) m L) := Lib.hid (HOTm.out.far hstl (by omega))
        clear hstl
        go_wp2_with fail
        refine bodyPost_ret (results_dr rfl _ wl X x (.int .i64 0) rfl HXl.out rfl) rfl (.inr (.inr ⟨hOk, hR, A, cL, L, by rw [HX.out], ownT_mono HOTl.out HWB, HI.out, HAN.out.1, HAN.out.2.1, HAN.out.2.2, HBl.out⟩))
      · refine (same_no (some ⟨g1, 0, none⟩) (some ⟨b, off, none⟩) n n c1 c y z _ HR1n.out ⟨.inr ⟨b, off, rfl, HRWn.out⟩, HRWn.out.2.2⟩ (fun h => hS h.2) (by omega) (by omega)).mono ?_
        rintro e wk ⟨rfl, k2, rfl⟩
        have hbd := below_drewN wj k2
        have HX4 := Lib.hid (HX0n.out.below hbd HX0n.out.lt)
        have HB4 := Lib.hid (HBn.out.trans (hbd.mono HBn.out.size))
        obtain ⟨wk, hwk⟩ : ∃ wk, wj.drewN k2 = wk := ⟨_, rfl⟩
        rw [hwk] at HX4 HB4 ⊢
        have hNR : q = 2 ∧ rightB (fun j => z (12 + j)) 12 (n - 12) = false := by
          have h1 : ¬ (q = 2 → rightB (fun j => z (12 + j)) 12 (n - 12) = true) := fun h => hS (hall.2 h)
          refine ⟨Classical.byContradiction fun h => h1 fun h' => absurd h' h, ?_⟩
          cases hb : rightB (fun j => z (12 + j)) 12 (n - 12)
          · rfl
          · exact absurd (fun _ => hb) h1
        clear hwk hbd HPn HX0n HRWn HBn HOTn HR1n
        go_wp2_with (first
          | (refine wpList_v (op := ⟨some 164, _, _, _, _, _⟩) rfl _ (build_0d _ _ rfl _) ?_)
          | (refine wpList_st rfl 42 (.tmp 2) (.tmp 164) rfl X 0 rfl (.agg (pdC pd0)) (pdC pd0) rfl rfl info_pdR (pdC_one _) HX4.out (Nat.le_of_ble_eq_true rfl) (pd_all _ _) ?_; intro w2 hst2; refine Hid.out ?_))
        refine Lib.hid ?_
        have HX2 : Hid (PdT 42 w2 X pd0) := Lib.hid hst2.1
        have HB2 : Hid (Below w.heap.size w w2) := Lib.hid (HB4.out.trans (hst2.2.1 _ hXle))
        clear hst2
        go_wp2_with fail
        refine bodyPost_ret (results_dr rfl _ w2 X pd0 (.int .i64 8) rfl HX2.out rfl) rfl (.inr (.inl ⟨hOk, hNR.1, hNR.2, rfl, HB2.out⟩))
    · have hdiff : ¬ (n = n ∧ ∀ j, j < n → y j = yz j) := fun h => hE (HBI.out.1 fun j hj hc2 => by rw [h.2 j hj, HYZ.out j hj hc2])
      refine (same_no (some ⟨g1, 0, none⟩) (some ⟨g2, 0, none⟩) n n c1 c2 y yz _ HR1.out HR2.out hdiff (by omega) (by omega)).mono ?_
      rintro e wj ⟨rfl, k1, rfl⟩
      have hbd := below_drewN wc k1
      have HX4 := Lib.hid (HX0.out.below hbd HX0.out.lt)
      have HB4 := Lib.hid (HB.out.trans (hbd.mono HB.out.size))
      obtain ⟨wj, hwj⟩ : ∃ wj, wc.drewN k1 = wj := ⟨_, rfl⟩
      rw [hwj] at HX4 HB4 ⊢
      clear hwj hbd HP HX0 HRW HB HOT HR1 HR2
      go_wp2_with (first
        | (refine wpList_v (op := ⟨some 159, _, _, _, _, _⟩) rfl _ (build_0d _ _ rfl _) ?_)
        | (refine wpList_st rfl 42 (.tmp 2) (.tmp 159) rfl X 0 rfl (.agg (pdC pd0)) (pdC pd0) rfl rfl info_pdR (pdC_one _) HX4.out (Nat.le_of_ble_eq_true rfl) (pd_all _ _) ?_; intro w2 hst2; refine Hid.out ?_))
      refine Lib.hid ?_
      have HX2 : Hid (PdT 42 w2 X pd0) := Lib.hid hst2.1
      have HB2 : Hid (Below w.heap.size w w2) := Lib.hid (HB4.out.trans (hst2.2.1 _ hXle))
      clear hst2
      go_wp2_with fail
      refine bodyPost_ret (results_dr rfl _ w2 X pd0 (.int .i64 3) rfl HX2.out rfl) rfl (.inl ⟨fun h => hE h.2.2, rfl, HB2.out⟩)
end Go.Proofs.YtccoicjmmeoggaaDoor

/- Read and the document's DocRead answer alike. Each theorem states its conditions. -/
namespace Go.Proofs.YtccoicjmmeoggaaDoor
open Go.RowKit
set_option linter.unusedVariables false

/-- both say no, with one error -/
def BothNo (n : Nat) (z : Nat → Int) (E : Int) : Prop :=
  (∀ (A : Option Addr) (c : Nat) (w : World), Rd w A n z → n ≤ c → c ≤ maxLen → Calls Tryd.prog 45 #[.slice A n c] w (RdErr w E)) ∧
  ∀ (A : Option Addr) (c : Nat) (w : World), Rd w A n z → n ≤ c → c ≤ maxLen → Calls Tryd.prog 48 #[.slice A n c] w (RdErr w E)
/-- both say what they read -/
def BothYes (n : Nat) (z : Nat → Int) (m : Nat) : Prop :=
  (∀ (A : Option Addr) (c : Nat) (w : World), Rd w A n z → n ≤ c → c ≤ maxLen → Calls Tryd.prog 45 #[.slice A n c] w (RdOk w (cls (z 4)) z m)) ∧
  ∀ (A : Option Addr) (c : Nat) (w : World), Rd w A n z → n ≤ c → c ≤ maxLen → Calls Tryd.prog 48 #[.slice A n c] w (RdOk w (cls (z 4)) z m)
theorem drP_no {w : World} {q : Nat} {z : Nat → Int} {n m : Nat} {e : Ending} {w' : World} (h : DrP w q z n m e w') (hn : ¬ DrOk q z n m) : RdErr w 3 e w' := by
  rcases h with ⟨_, h⟩ | ⟨h, _⟩ | ⟨h, _⟩
  · exact h
  · exact absurd h hn
  · exact absurd h hn
theorem drP_sum {w : World} {q : Nat} {z : Nat → Int} {n m : Nat} {e : Ending} {w' : World} (h : DrP w q z n m e w') (hn : DrOk q z n m) (h2 : q = 2) (hr : rightB (fun j => z (12 + j)) 12 (n - 12) = false) : RdErr w 8 e w' := by
  rcases h with ⟨h, _⟩ | ⟨_, _, _, h⟩ | ⟨_, h, _⟩
  · exact absurd hn h
  · exact h
  · have := h h2
    rw [hr] at this
    cases this
theorem drP_yes {w : World} {q : Nat} {z : Nat → Int} {n m : Nat} {e : Ending} {w' : World} (h : DrP w q z n m e w') (hn : DrOk q z n m) (hr : q = 2 → rightB (fun j => z (12 + j)) 12 (n - 12) = true) : RdOk w q z m e w' := by
  rcases h with ⟨h, _⟩ | ⟨_, h2, h, _⟩ | ⟨_, _, h⟩
  · exact absurd hn h
  · have := hr h2
    rw [h] at this
    cases this
  · exact h
theorem both_rd (n : Nat) (z : Nat → Int) : (∃ E : Int, (E = 2 ∨ E = 3 ∨ E = 8) ∧ BothNo n z E) ∨ ∃ m, n ≤ 1492 ∧ GoodZ z n m ∧ BothYes n z m := by
  by_cases hl : 1492 < n
  · exact .inl ⟨2, .inl rfl, fun A c w hr hc hcm => rd_long A n c w hl, fun A c w hr hc hcm => dr_long A n c w hl⟩
  have hn2 : n ≤ 1492 := by omega
  by_cases hf : FormOk z n
  · obtain ⟨h8, hq, hh, h1, h2⟩ := hf
    obtain ⟨m, hm1, hm2⟩ := pos_cases (tlZ (cls (z 4)) z) (n - hdN (cls (z 4)))
    have hE : Ends (tlZ (cls (z 4)) z) (n - hdN (cls (z 4))) m := ⟨hm1, hm2⟩
    have hf : FormOk z n := ⟨h8, hq, hh, h1, h2⟩
    have hM : ∀ (b off c : Nat) (w : World), Row8 w b off n z → n ≤ c → c ≤ maxLen → Calls Tryd.prog 48 #[.slice (some ⟨b, off, none⟩) n c] w (DrP w (cls (z 4)) z n m) :=
      fun b off c w hr hc hcm => dr_main b off n c z w hr hc hcm hn2 h8 _ rfl hq hh m hE
    cases hft : fitP (rdP (cls (z 4)) z) (cls (z 4))
    · refine .inl ⟨3, .inr (.inl rfl), fun A c w hr hc hcm => ?_, fun A c w hr hc hcm => ?_⟩
      · obtain ⟨b, off, rfl, hr2⟩ := hr.row (by omega)
        refine rd_formW (some ⟨b, off, none⟩) n c z w hr hn2 fun W hbW => ?_
        refine (rf_good b off n c z W (hr2.below' hbW) hc hcm hn2 hf false hft).mono fun e w' h => ?_
        exact ⟨_, _, _, _, h.1, h.2⟩
      · obtain ⟨b, off, rfl, hr2⟩ := hr.row (by omega)
        exact (hM b off c w hr2 hc hcm).mono fun e w' h => drP_no h fun hk => Bool.noConfusion (hft.symm.trans hk.2.1)
    · by_cases hp : pos (tlZ (cls (z 4)) z) m = n - hdN (cls (z 4))
      · have hok : DrOk (cls (z 4)) z n m := ⟨hp, hft, hf⟩
        by_cases h22 : cls (z 4) = 2
        · cases hrb : rightB (fun j => z (12 + j)) 12 (n - 12)
          · refine .inl ⟨8, .inr (.inr rfl), fun A c w hr hc hcm => ?_, fun A c w hr hc hcm => ?_⟩
            · obtain ⟨b, off, rfl, hr2⟩ := hr.row (by omega)
              exact rd_sum b off n c z w hr2 hc hcm hn2 _ rfl hf hft m hE hp h22 hrb
            · obtain ⟨b, off, rfl, hr2⟩ := hr.row (by omega)
              exact (hM b off c w hr2 hc hcm).mono fun e w' h => drP_sum h hok h22 hrb
          · have hg : GoodZ z n m := ⟨hf, hft, hE, hp, fun _ => hrb⟩
            refine .inr ⟨m, hn2, hg, fun A c w hr hc hcm => read_good A n c z w hr hc hcm hn2 m hg, fun A c w hr hc hcm => ?_⟩
            obtain ⟨b, off, rfl, hr2⟩ := hr.row (by omega)
            exact (hM b off c w hr2 hc hcm).mono fun e w' h => drP_yes h hok fun _ => hrb
        · have hg : GoodZ z n m := ⟨hf, hft, hE, hp, fun h => absurd h h22⟩
          refine .inr ⟨m, hn2, hg, fun A c w hr hc hcm => read_good A n c z w hr hc hcm hn2 m hg, fun A c w hr hc hcm => ?_⟩
          obtain ⟨b, off, rfl, hr2⟩ := hr.row (by omega)
          exact (hM b off c w hr2 hc hcm).mono fun e w' h => drP_yes h hok fun h => absurd h h22
      · refine .inl ⟨3, .inr (.inl rfl), fun A c w hr hc hcm => ?_, fun A c w hr hc hcm => ?_⟩
        · obtain ⟨b, off, rfl, hr2⟩ := hr.row (by omega)
          exact rd_split b off n c z w hr2 hc hcm hn2 _ rfl hf hft m hE hp
        · obtain ⟨b, off, rfl, hr2⟩ := hr.row (by omega)
          exact (hM b off c w hr2 hc hcm).mono fun e w' h => drP_no h fun hk => hp hk.1
  · refine .inl ⟨3, .inr (.inl rfl), fun A c w hr hc hcm => read_form A n c z w hr hc hcm hn2 hf, fun A c w hr hc hcm => ?_⟩
    by_cases h8 : n < 8
    · exact dr_short A n c w hn2 h8
    · obtain ⟨b, off, rfl, hr2⟩ := hr.row (by omega)
      have hcl := cls_le (z 4)
      by_cases h5 : cls (z 4) = 5
      · exact dr_kind b off n c z w hr2 hn2 (by omega) h5
      · by_cases hh : n < hdN (cls (z 4))
        · exact dr_head b off n c z w hr2 hn2 (by omega) _ rfl (by omega) hh
        · obtain ⟨m, hm1, hm2⟩ := pos_cases (tlZ (cls (z 4)) z) (n - hdN (cls (z 4)))
          exact (dr_main b off n c z w hr2 hc hcm hn2 (by omega) _ rfl (by omega) (by omega) m ⟨hm1, hm2⟩).mono fun e w' h => drP_no h fun hk => hf hk.2.2
end Go.Proofs.YtccoicjmmeoggaaDoor

/- mac.Open: what it answers, for all bytes and keys. Each theorem states its conditions. -/
namespace Go.Proofs.YtccoicjmmeoggaaDoor
open Go.RowKit
set_option linter.unusedVariables false
set_option linter.unusedSimpArgs false

/-- the items that bytes tell -/
def itL (q : Nat) (z : Nat → Int) : Nat → It := fun j => itZ (tlZ q z) j 0 0
theorem itL_al {q : Nat} {z : Nat → Int} {L : Nat → It} {m : Nat} (h : IsItZ (tlZ q z) L m) : ∀ j, j < m → Alike (itL q z j) (L j) := fun j hj => by
  obtain ⟨g, cap, e⟩ := h j hj
  rw [e]
  exact ⟨rfl, rfl, rfl⟩
theorem signed_al {L L2 : Nat → It} {m : Nat} {kd : Int} {z : Nat → Int} {n : Nat} {K : Nat → It} {mk : Nat} (h : ∀ j, j < m → Alike (L j) (L2 j)) : Signed L m kd z n K mk ↔ Signed L2 m kd z n K mk := by
  unfold Signed
  constructor
  · rintro ⟨h0, ⟨h1, h2, h3⟩, h4, h5, h6⟩
    obtain ⟨a1, a2, a3⟩ := h (m - 1) h1
    exact ⟨h0, ⟨h1, a1 ▸ h2, fun j hj => by rw [← (h j (by omega)).1]; exact h3 j hj⟩, a2 ▸ h4, a3 ▸ h5, a3 ▸ h6⟩
  · rintro ⟨h0, ⟨h1, h2, h3⟩, h4, h5, h6⟩
    obtain ⟨a1, a2, a3⟩ := h (m - 1) h1
    exact ⟨h0, ⟨h1, a1 ▸ h2, fun j hj => by rw [(h j (by omega)).1]; exact h3 j hj⟩, a2 ▸ h4, a3 ▸ h5, a3 ▸ h6⟩
theorem sz_2 (L : Nat → It) (m : Nat) : 2 * m ≤ sz L m := by
  induction m with
  | zero => exact Nat.zero_le _
  | succ m ih => simp only [sz]; omega
theorem sz_last {L : Nat → It} {m : Nat} (h : 0 < m) : (L (m - 1)).n + 2 ≤ sz L m := by
  obtain ⟨l, rfl⟩ : ∃ l, m = l + 1 := ⟨m - 1, by omega⟩
  simp only [sz, Nat.add_sub_cancel]
  omega
theorem build_pd0 (o : Oper) (e : Operand → Value) (ho : o.op = .build 46 #[]) (W : World) : (execOp e o).run Tryd.prog W = .ok (.value (.agg (pdC pd0))) W := by
  unfold execOp
  simp only [ho]
  kernel_rfl
theorem OwnT.farT {w w' : World} {base m b : Nat} {v : Value} {L : Nat → It} {C C0 : Array Value} {t : TypeId} (h : OwnT w base v m L) (hb : Blk 46 w b C0) (hs : Stored w w' b C t) : OwnT w' base v m L := by
  refine ⟨⟨h.1.1, ?_⟩, fun j hj => ?_⟩
  · rcases h.1.2 with h1 | ⟨g, cap, cur, hv, hg, hc, r⟩
    · exact .inl h1
    · refine .inr ⟨g, cap, cur, hv, hg, (hs.2.2 g fun e => ?_).trans hc, r⟩
      subst e
      have hb' : w.heap[g]? = _ := hb
      rw [hc] at hb'
      injection hb' with hb'
      injection hb' with _ hb' _
      exact absurd hb' (by decide)
  · obtain ⟨h1, h2, g, h3, h4, h5⟩ := h.2 j hj
    refine ⟨h1, h2, g, h3, h4, h5.block (hs.2.2 g fun e => ?_)⟩
    subst e
    obtain ⟨⟨cur, hc, _⟩, _⟩ := h5
    have hb' : w.heap[g]? = _ := hb
    rw [hc] at hb'
    injection hb' with hb'
    injection hb' with _ hb' _
    exact absurd hb' (by decide)
theorem OwnT.drop1 {w w' : World} {base m k : Nat} {v v' : Value} {L : Nat → It} (h : OwnT w base v m L) (hk : k ≤ m) (hr : w'.ownsRow base 49 2 v' (0 + k) ([] ++ cellsT L k)) (hb : Below w.heap.size w w') : OwnT w' base v' k L := by
  rw [Nat.zero_add, List.nil_append] at hr
  exact ⟨hr, fun j hj => (h.2 j (by omega)).below hb⟩
theorem ownV_caps {w : World} {base : Nat} {t : It} (h : OwnV w base t) : t.n ≤ t.c ∧ t.c ≤ maxLen := by
  obtain ⟨_, _, g, _, _, h5⟩ := h
  exact h5.caps
/-- what Open answers where the packet was read -/
def OpnP (q m n : Nat) (z : Nat → Int) (K : Nat → It) (mk : Nat) (w : World) (e : Ending) (w' : World) : Prop :=
  (keysE K mk ≠ 0 ∧ RdErr w (keysE K mk) e w') ∨ (keysE K mk = 0 ∧ mk = 0 ∧ RdOk w q z m e w') ∨
  (keysE K mk = 0 ∧ 0 < mk ∧ Signed (itL q z) m (z 4) z n K mk ∧ RdOk w q z (m - 1) e w') ∨ (keysE K mk = 0 ∧ 0 < mk ∧ ¬ Signed (itL q z) m (z 4) z n K mk ∧ RdErr w 9 e w')
theorem keysE_zero {K : Nat → It} {m : Nat} (h : keysE K m = 0) : m ≤ 8 ∧ ∀ j, j < m → 0 < (K j).n ∧ (K j).n ≤ 64 := by
  unfold keysE at h
  split at h
  · omega
  · refine ⟨by omega, ?_⟩
    have : ∀ k, ckE K k = 0 → ∀ j, j < k → 0 < (K j).n ∧ (K j).n ≤ 64 := by
      intro k
      induction k with
      | zero => intro _ j hj; omega
      | succ k ih =>
        intro hk j hj
        obtain ⟨h1, h2⟩ := lea_zero hk
        by_cases e : j = k
        · subst e; exact secE_zero h2
        · exact ih h1 j (by omega)
    exact this m h
theorem good_sz {z : Nat → Int} {n m q : Nat} {L : Nat → It} (h : GoodZ z n m) (hq : cls (z 4) = q) (hI : IsItZ (tlZ q z) L m) : sz L m + hdN q = n ∧ 17 ≤ hdN q := by
  subst hq
  have h1 := sz_it hI m (Nat.le_refl _)
  have h2 := h.2.2.2.1
  have h3 := h.1.2.2.1
  have h4 := hdN_bd (cls (z 4)) h.1.2.1
  omega
theorem slice_o (o : Oper) (e : Operand → Value) (x y : Operand) (ho : o.op = .slice 40 x none (some y) none) (g off m n c : Nat) (h0 : e x = .slice (some ⟨g, off, none⟩) n c) (h1 : e y = .int .i64 (m : Int)) (hm : m ≤ c) (W : World) :
    (execOp e o).run Tryd.prog W = .ok (.value (.slice (some ⟨g, off, none⟩) m c)) W := by
  unfold execOp
  simp only [ho, h0, h1, Option.map_none, Option.map_some]
  have e3 : ¬ ((c : Int) < (m : Int)) := by omega
  have e4 : ¬ (c < m) := by omega
  simp [go_sem, e3, e4]
set_option maxHeartbeats 8000000 in
set_option maxRecDepth 100000 in
theorem open_no (B : Option Addr) (n c : Nat) (z : Nat → Int) (A : Option Addr) (mk ck : Nat) (K : Nat → It) (E : Int) (w : World) (hE : E = 2 ∨ E = 3 ∨ E = 8) (hrd : ∀ w, Rd w B n z → Calls Tryd.prog 45 #[.slice B n c] w (RdErr w E)) (hB : Rd w B n z) (hK : RdK w A mk K) :
    Calls Tryd.prog 22 #[.slice B n c, .slice A mk ck] w (RdErr w (lea E (keysE K mk))) := by
  have HRD := Lib.hid hrd
  have HBB := Lib.hid hB
  have HK := Lib.hid hK
  have bE : 0 ≤ E ∧ E ≤ 20 ∧ E ≠ 0 := by omega
  have BE := Lib.hid bE
  clear hrd hB hK bE hE
  go_enter Tryd.func22, Tryd.ntmps22
  have HB := Lib.hid (Below.refl w.heap.size w)
  obtain ⟨N1, hN1⟩ : ∃ N, w.heap.size = N := ⟨_, rfl⟩
  have HN1 := Lib.hid hN1
  clear hN1
  go_wp2_with (refine wpList_new (op := ⟨some 4, _, _, _, _, _⟩) rfl 46 rfl (pdC pd0) zero_pdP N1 HN1.out ?_; intro w1 k1 b1 s1; refine Hid.out ?_)
  refine Lib.hid ?_
  have K4 := Lib.hid k1
  clear k1
  have le_HB_N1 : w.heap.size ≤ N1 := by rw [← HN1.out]; exact HB.out.size
  have HBn := Lib.hid (HB.out.trans (b1.mono HB.out.size))
  clear HB
  have HB := HBn
  clear HBn
  clear b1 HN1
  go_wp2_with fail
  refine (HRD.out w1 (HBB.out.below HB.out rfl)).mono ?_
  rintro e w10 ⟨rfl, b1⟩
  have K4n := Lib.hid (K4.out.below b1 K4.out.lt)
  clear K4
  have K4 := K4n
  clear K4n
  have HBn := Lib.hid (HB.out.trans (b1.mono HB.out.size))
  clear HB
  have HB := HBn
  clear HBn
  clear b1
  obtain ⟨N11, hN11⟩ : ∃ N, w10.heap.size = N := ⟨_, rfl⟩
  have HN11 := Lib.hid hN11
  clear hN11
  go_wp2_with (refine wpList_new (op := ⟨some 6, _, _, _, _, _⟩) rfl 46 rfl (pdC pd0) zero_pdP N11 HN11.out ?_; intro w11 k1 b1 s1; refine Hid.out ?_)
  refine Lib.hid ?_
  have K6 := Lib.hid k1
  clear k1
  have lt_N1_N11 : N1 < N11 := by rw [← HN11.out]; exact K4.out.lt
  have le_HB_N11 : w.heap.size ≤ N11 := by rw [← HN11.out]; exact HB.out.size
  have K4n := Lib.hid (K4.out.below b1 K4.out.lt)
  clear K4
  have K4 := K4n
  clear K4n
  have HBn := Lib.hid (HB.out.trans (b1.mono HB.out.size))
  clear HB
  have HB := HBn
  clear HBn
  clear b1 HN11
  go_wp2_with (refine wpList_st rfl 46 (.tmp 6) (.tmp 11) rfl N11 0 rfl (.agg (pdC pd0)) (pdC pd0) rfl rfl info_pdP (pdC_one _) K6.out (Nat.le_of_ble_eq_true rfl) (C' := pdC pd0) (pd_over _ _) ?_; intro w20 q1; refine Hid.out ?_)
  refine Lib.hid ?_
  have K4n := Lib.hid (K4.out.far q1 (by omega))
  clear K4
  have K4 := K4n
  clear K4n
  have HBn := Lib.hid (HB.out.trans (q1.2.1 _ (by omega)))
  clear HB
  have HB := HBn
  clear HBn
  have K6n : Hid (Blk 46 w20 N11 (pdC pd0)) := Lib.hid q1.1
  clear K6
  have K6 := K6n
  clear K6n q1
  go_wp2_with fail
  have BK := keysE_bd K mk
  refine (checkKeys_any A mk ck K w20 (HK.out.below HB.out)).mono ?_
  rintro e w30 ⟨rfl, b1⟩
  have K4n := Lib.hid (K4.out.below b1 K4.out.lt)
  clear K4
  have K4 := K4n
  clear K4n
  have K6n := Lib.hid (K6.out.below b1 K6.out.lt)
  clear K6
  have K6 := K6n
  clear K6n
  have HBn := Lib.hid (HB.out.trans (b1.mono HB.out.size))
  clear HB
  have HB := HBn
  clear HBn
  clear b1
  go_wp2_with fail
  refine (least_any E (keysE K mk) w30 (by have := BE.out; omega) (by omega)).mono ?_
  rintro e w31 ⟨rfl, rfl⟩
  obtain ⟨X, hX⟩ : ∃ X, lea E (keysE K mk) = X := ⟨_, rfl⟩
  have hX0 : X ≠ 0 := by rw [← hX]; have := BE.out; unfold lea; (repeat' split) <;> omega
  rw [hX]
  have hXb : (X != 0) = true := by simpa using hX0
  have HXX := Lib.hid hX
  clear hX hX0 BK
  go_wp2_with (refine wpList_v (op := ⟨some 20, _, _, _, _, _⟩) rfl (.agg (pdC pd0)) (build_pd0 _ _ rfl _) ?_; refine Hid.out ?_)
  refine Lib.hid ?_
  go_wp2_with (refine wpList_st rfl 46 (.tmp 4) (.tmp 20) rfl N1 0 rfl (.agg (pdC pd0)) (pdC pd0) rfl rfl info_pdP (pdC_one _) K4.out (Nat.le_of_ble_eq_true rfl) (C' := pdC pd0) (pd_over _ _) ?_; intro w40 q1; refine Hid.out ?_)
  refine Lib.hid ?_
  have K6n := Lib.hid (K6.out.far q1 (by omega))
  clear K6
  have K6 := K6n
  clear K6n
  have HBn := Lib.hid (HB.out.trans (q1.2.1 _ (by omega)))
  clear HB
  have HB := HBn
  clear HBn
  have K4n : Hid (Blk 46 w40 N1 (pdC pd0)) := Lib.hid q1.1
  clear K4
  have K4 := K4n
  clear K4n q1
  go_wp2_with fail
  exact bodyPost_ret (results_2 rfl _ _ N1 (pdC (pd0)) (.int .i64 X) Tryd.underlying46 rfl info_pdP rfl rfl K4.out) rfl ⟨by rw [HXX.out], HB.out⟩
set_option maxHeartbeats 8000000 in
set_option maxRecDepth 100000 in
theorem open_yes (B : Option Addr) (n c : Nat) (z : Nat → Int) (A : Option Addr) (mk ck : Nat) (K : Nat → It) (q m : Nat) (w : World) (hq : cls (z 4) = q) (hgood : GoodZ z n m) (hn2 : n ≤ 1492) (hrd : ∀ w, Rd w B n z → Calls Tryd.prog 45 #[.slice B n c] w (RdOk w q z m)) (hB : Rd w B n z) (hBn : B = none → n = 0 ∧ c = 0) (hK : RdK w A mk K) (hg : Rts w 0) :
    Calls Tryd.prog 22 #[.slice B n c, .slice A mk ck] w (OpnP q m n z K mk w) := by
  have HRD := Lib.hid hrd
  have HBB := Lib.hid hB
  have HBN := Lib.hid hBn
  have HN2 := Lib.hid hn2
  have HK := Lib.hid hK
  have HG := Lib.hid hgood
  have HQ := Lib.hid hq
  have RT := Lib.hid hg
  have hg9 := hg.2
  clear hrd hB hBn hK hgood hq hg hn2
  go_enter Tryd.func22, Tryd.ntmps22
  have HB := Lib.hid (Below.refl w.heap.size w)
  obtain ⟨N1, hN1⟩ : ∃ N, w.heap.size = N := ⟨_, rfl⟩
  have HN1 := Lib.hid hN1
  clear hN1
  go_wp2_with (refine wpList_new (op := ⟨some 4, _, _, _, _, _⟩) rfl 46 rfl (pdC pd0) zero_pdP N1 HN1.out ?_; intro w1 k1 b1 s1; refine Hid.out ?_)
  refine Lib.hid ?_
  have K4 := Lib.hid k1
  clear k1
  have lt_0_N1 : 0 < N1 := by rw [← HN1.out]; exact RT.out.lt
  have le_HB_N1 : w.heap.size ≤ N1 := by rw [← HN1.out]; exact HB.out.size
  have RTn := Lib.hid (RT.out.below b1 RT.out.lt)
  clear RT
  have RT := RTn
  clear RTn
  have HBn := Lib.hid (HB.out.trans (b1.mono HB.out.size))
  clear HB
  have HB := HBn
  clear HBn
  clear b1 HN1
  go_wp2_with fail
  refine (HRD.out w1 (HBB.out.below HB.out rfl)).mono ?_
  rintro e w10 ⟨A7, c7, L, rfl, ho, hI, hA7, hc71, hc72, b1⟩
  have HO : Hid (OwnT w10 w.heap.size (.slice A7 m c7) m L) := Lib.hid (ho.le HB.out.size)
  have HI := Lib.hid hI
  have HA7 := Lib.hid (And.intro hA7 (And.intro hc71 hc72))
  clear ho hI hA7 hc71 hc72
  have RTn := Lib.hid (RT.out.below b1 RT.out.lt)
  clear RT
  have RT := RTn
  clear RTn
  have K4n := Lib.hid (K4.out.below b1 K4.out.lt)
  clear K4
  have K4 := K4n
  clear K4n
  have HBn := Lib.hid (HB.out.trans (b1.mono HB.out.size))
  clear HB
  have HB := HBn
  clear HBn
  clear b1
  have HPK : Hid ((withT (rdP q z) A7 m c7).kd = z 4) := Lib.hid (rdP_kd q z)
  obtain ⟨p, hp⟩ : ∃ p, withT (rdP q z) A7 m c7 = p := ⟨_, rfl⟩
  have HP := Lib.hid hp
  have hpA : p.A = A7 := by rw [← hp]; rfl
  have hpm : p.m = m := by rw [← hp]; rfl
  have hpc : p.c = c7 := by rw [← hp]; rfl
  have hpk : p.kd = z 4 := by rw [← hp]; exact HPK.out
  rw [hp]
  have HPA := Lib.hid (And.intro hpA (And.intro hpm (And.intro hpc hpk)))
  clear hp hpA hpm hpc hpk HPK
  obtain ⟨N11, hN11⟩ : ∃ N, w10.heap.size = N := ⟨_, rfl⟩
  have HN11 := Lib.hid hN11
  clear hN11
  go_wp2_with (refine wpList_new (op := ⟨some 6, _, _, _, _, _⟩) rfl 46 rfl (pdC pd0) zero_pdP N11 HN11.out ?_; intro w11 k1 b1 s1; refine Hid.out ?_)
  refine Lib.hid ?_
  have K6 := Lib.hid k1
  have HO2 := Lib.hid (OwnT.below HO.out b1)
  clear k1
  have lt_0_N11 : 0 < N11 := by rw [← HN11.out]; exact RT.out.lt
  have lt_N1_N11 : N1 < N11 := by rw [← HN11.out]; exact K4.out.lt
  have le_HB_N11 : w.heap.size ≤ N11 := by rw [← HN11.out]; exact HB.out.size
  have RTn := Lib.hid (RT.out.below b1 RT.out.lt)
  clear RT
  have RT := RTn
  clear RTn
  have K4n := Lib.hid (K4.out.below b1 K4.out.lt)
  clear K4
  have K4 := K4n
  clear K4n
  have HBn := Lib.hid (HB.out.trans (b1.mono HB.out.size))
  clear HB
  have HB := HBn
  clear HBn
  clear b1 HN11
  go_wp2_with (refine wpList_st rfl 46 (.tmp 6) (.tmp 11) rfl N11 0 rfl (.agg (pdC p)) (pdC p) rfl rfl info_pdP (pdC_one _) K6.out (Nat.le_of_ble_eq_true rfl) (C' := pdC p) (pd_over _ _) ?_; intro w20 q1; refine Hid.out ?_)
  refine Lib.hid ?_
  have HO3 := Lib.hid (OwnT.farT HO2.out K6.out q1)
  have RTn := Lib.hid (RT.out.far q1 (by omega))
  clear RT
  have RT := RTn
  clear RTn
  have K4n := Lib.hid (K4.out.far q1 (by omega))
  clear K4
  have K4 := K4n
  clear K4n
  have HBn := Lib.hid (HB.out.trans (q1.2.1 _ (by omega)))
  clear HB
  have HB := HBn
  clear HBn
  have K6n : Hid (Blk 46 w20 N11 (pdC p)) := Lib.hid q1.1
  clear K6
  have K6 := K6n
  clear K6n q1
  clear HO HO2
  have HO := HO3
  clear HO3
  go_wp2_with fail
  have BK := keysE_bd K mk
  refine (checkKeys_any A mk ck K w20 (HK.out.below HB.out)).mono ?_
  rintro e w30 ⟨rfl, b1⟩
  have HO3 := Lib.hid (OwnT.below HO.out b1)
  clear HO
  have HO := HO3
  clear HO3
  have RTn := Lib.hid (RT.out.below b1 RT.out.lt)
  clear RT
  have RT := RTn
  clear RTn
  have K4n := Lib.hid (K4.out.below b1 K4.out.lt)
  clear K4
  have K4 := K4n
  clear K4n
  have K6n := Lib.hid (K6.out.below b1 K6.out.lt)
  clear K6
  have K6 := K6n
  clear K6n
  have HBn := Lib.hid (HB.out.trans (b1.mono HB.out.size))
  clear HB
  have HB := HBn
  clear HBn
  clear b1
  go_wp2_with fail
  refine (least_any 0 (keysE K mk) w30 (by decide) (by omega)).mono ?_
  rintro e w31 ⟨rfl, rfl⟩
  rw [show lea 0 (keysE K mk) = keysE K mk from if_pos rfl]
  obtain ⟨X, hX⟩ : ∃ X, keysE K mk = X := ⟨_, rfl⟩
  rw [hX]
  have HX := Lib.hid hX
  clear BK
  by_cases hX0 : X = 0
  · subst hX0
    have hXb : ((0 : Int) != 0) = false := rfl
    clear hX
    obtain ⟨hk8, hks⟩ := keysE_zero HX.out
    have HKS := Lib.hid hks
    clear hks
    by_cases hk0 : mk = 0
    · subst hk0
      go_wp2_with (refine wpList_ld (op := ⟨some 26, _, _, _, _, _⟩) (by rfl) 46 (.tmp 6) rfl N11 0 rfl (pdC p) _ K6.out.all Tryd.underlying46 rfl info_pdP ?_; refine Hid.out ?_)
      refine Lib.hid ?_
      go_wp2_with (refine wpList_st rfl 46 (.tmp 4) (.tmp 26) rfl N1 0 rfl (.agg (pdC p)) (pdC p) rfl rfl info_pdP (pdC_one _) K4.out (Nat.le_of_ble_eq_true rfl) (C' := pdC p) (pd_over _ _) ?_; intro w40 q1; refine Hid.out ?_)
      refine Lib.hid ?_
      have HO3 := Lib.hid (OwnT.farT HO.out K4.out q1)
      have RTn := Lib.hid (RT.out.far q1 (by omega))
      clear RT
      have RT := RTn
      clear RTn
      have K6n := Lib.hid (K6.out.far q1 (by omega))
      clear K6
      have K6 := K6n
      clear K6n
      have HBn := Lib.hid (HB.out.trans (q1.2.1 _ (by omega)))
      clear HB
      have HB := HBn
      clear HBn
      have K4n : Hid (Blk 46 w40 N1 (pdC p)) := Lib.hid q1.1
      clear K4
      have K4 := K4n
      clear K4n q1
      clear HO
      have HO := HO3
      clear HO3
      go_wp2_with fail
      exact bodyPost_ret (results_2 rfl _ _ N1 (pdC (p)) (.int .i64 0) Tryd.underlying46 rfl info_pdP rfl rfl K4.out) rfl (.inr (.inl ⟨HX.out, rfl, ⟨A7, c7, L, by rw [HP.out], (HO.out), HI.out, HA7.out.1, HA7.out.2.1, HA7.out.2.2, HB.out⟩⟩))
    · have hkb : ((mk : Int) == 0) = false := by simp; omega
      have hkp : 0 < mk := by omega
      clear hk0
      go_wp2_with (refine wpList_ld (op := ⟨some 29, _, _, _, _, _⟩) (by rfl) 46 (.tmp 6) rfl N11 0 rfl (pdC p) _ K6.out.all Tryd.underlying46 rfl info_pdP ?_; refine Hid.out ?_)
      refine Lib.hid ?_
      go_wp2_with fail
      have hRT : RdT w31 p.A p.m L := by rw [HPA.out.1, HPA.out.2.1]; obtain ⟨A8, c8, e8, _, _, _, h8⟩ := HO.out.shape; injection e8 with e8 _ _; rw [e8]; exact h8
      have hps : sz L m + hdN q = n ∧ 17 ≤ hdN q := good_sz HG.out HQ.out HI.out
      have hm9 : p.m ≤ 1000 := by rw [HPA.out.2.1]; have := sz_2 L m; have := HN2.out; omega
      have hmp : p.m = m := HPA.out.2.1
      have h54 : 0 < p.m → (L (p.m - 1)).n = 35 → 54 ≤ n := fun h0 h1 => by rw [hmp] at h0 h1; have := sz_last (L := L) h0; omega
      have hcv : 0 < p.m → (L (p.m - 1)).n ≤ (L (p.m - 1)).c ∧ (L (p.m - 1)).c ≤ maxLen := fun h0 => by rw [hmp] at h0 ⊢; exact ownV_caps (HO.out.2 (m - 1) (by omega))
      have HSG := Lib.hid (macSigned_any p L B n c z A mk ck K w31 hm9 hRT (HBB.out.below HB.out rfl) HBN.out HN2.out h54 hcv (HK.out.below HB.out) hk8 (fun j hj => (HKS.out j hj).2) RT.out)
      have hm92 : m ≤ 1000 := by omega
      clear hRT hps hm9 hmp h54 hcv
      refine HSG.out.mono ?_
      rintro e w50 ⟨r, rfl, hr, b1⟩
      clear HSG
      have hr2 : (r = true ∧ Signed (itL q z) m (z 4) z n K mk) ∨ (r = false ∧ ¬ Signed (itL q z) m (z 4) z n K mk) := by rw [HPA.out.2.1, HPA.out.2.2.2, ← signed_al (itL_al HI.out)] at hr; exact hr
      have HR2 := Lib.hid hr2
      clear hr hr2
      have HO3 := Lib.hid (OwnT.below HO.out b1)
      clear HO
      have HO := HO3
      clear HO3
      have RTn := Lib.hid (RT.out.below b1 RT.out.lt)
      clear RT
      have RT := RTn
      clear RTn
      have K4n := Lib.hid (K4.out.below b1 K4.out.lt)
      clear K4
      have K4 := K4n
      clear K4n
      have K6n := Lib.hid (K6.out.below b1 K6.out.lt)
      clear K6
      have K6 := K6n
      clear K6n
      have HBn := Lib.hid (HB.out.trans (b1.mono HB.out.size))
      clear HB
      have HB := HBn
      clear HBn
      clear b1
      cases r with
      | false =>
        go_wp2_with (refine wpList_v (op := ⟨some 33, _, _, _, _, _⟩) rfl (.agg (pdC pd0)) (build_pd0 _ _ rfl _) ?_; refine Hid.out ?_)
        refine Lib.hid ?_
        go_wp2_with (refine wpList_st rfl 46 (.tmp 4) (.tmp 33) rfl N1 0 rfl (.agg (pdC pd0)) (pdC pd0) rfl rfl info_pdP (pdC_one _) K4.out (Nat.le_of_ble_eq_true rfl) (C' := pdC pd0) (pd_over _ _) ?_; intro w60 q1; refine Hid.out ?_)
        refine Lib.hid ?_
        have RTn := Lib.hid (RT.out.far q1 (by omega))
        clear RT
        have RT := RTn
        clear RTn
        have K6n := Lib.hid (K6.out.far q1 (by omega))
        clear K6
        have K6 := K6n
        clear K6n
        have HBn := Lib.hid (HB.out.trans (q1.2.1 _ (by omega)))
        clear HB
        have HB := HBn
        clear HBn
        have K4n : Hid (Blk 46 w60 N1 (pdC pd0)) := Lib.hid q1.1
        clear K4
        have K4 := K4n
        clear K4n q1
        go_wp2_with fail
        exact bodyPost_ret (results_2 rfl _ _ N1 (pdC (pd0)) (.int .i64 9) Tryd.underlying46 rfl info_pdP rfl rfl K4.out) rfl (.inr (.inr (.inr ⟨HX.out, hkp, (HR2.out.resolve_left (fun h => by cases h.1)).2, rfl, HB.out⟩)))
      | true =>
        have hsg := (HR2.out.resolve_right (fun h => by cases h.1)).2
        have hm0 : 0 < m := hsg.1
        have HSG := Lib.hid hsg
        clear hsg
        obtain ⟨l, hl⟩ : ∃ l, m = l + 1 := ⟨m - 1, by omega⟩
        have HL := Lib.hid hl
        have cp : w50.cell? ⟨N11, 46, none⟩ = some (.slice A7 m c7) := (K6.out.cell 46).trans (by rw [pd_46, HPA.out.1, HPA.out.2.1, HPA.out.2.2.1])
        obtain ⟨A8, c8, e8, h81, h82, h83, h84⟩ := HO.out.shape
        injection e8 with e81 e82 e83
        subst e81 e83
        obtain ⟨b7, o7, rfl, hrow⟩ := h84.row (by omega)
        have HRL : Hid (RdT w50 (some ⟨b7, o7, none⟩) l L) := Lib.hid (.inr ⟨b7, o7, rfl, hrow.1, fun j hj => hrow.2 j (by omega)⟩)
        have hl9 : l ≤ 1000 := by omega
        have hlc : l ≤ c7 := by omega
        have hlc2 : c7 ≤ 9223372036854775807 := h82
        clear e82 h81 h82 h83 h84 hrow hl
        go_wp2_with (refine wpList_v (op := ⟨some 39, _, _, _, _, _⟩) rfl (.int .i64 (l : Int)) (run_m1 _ _ _ _ _ _ rfl m l rfl rfl HL.out (by omega) _) ?_; refine Hid.out ?_)
        refine Lib.hid ?_
        go_wp2_with (refine wpList_v (op := ⟨some 40, _, _, _, _, _⟩) rfl (.slice (some ⟨b7, o7, none⟩) l c7) (slice_o _ _ _ _ rfl b7 o7 l m c7 rfl rfl hlc _) ?_; refine Hid.out ?_)
        refine Lib.hid ?_
        clear cp
        obtain ⟨i0, hi, hz0, hz1, hz2⟩ := info_parts info_tlv
        go_wp2_with (at_builtin; refine wpList_append_any rfl (.const (.slice none 0 0)) (.tmp 40) 40 rfl w.heap.size 49 i0 _ 2 32 Tryd.underlying40 hi hz0 hz1 hz2 rfl (by decide) _ 0 [] rfl (World.ownsRow_nil _ _ _ _) (some ⟨b7, o7, none⟩) l c7 (cellsT L l) rfl (cellsT_len _ _) (fun e => by cases e) (rdT_news HRL.out) (cellsT_one _ _) (by unfold maxLen; omega) (by omega) HB.out.size ?_; intro v41 w60 ho hgr; refine Hid.out ?_)
        refine Lib.hid ?_
        have b1 : Below w50.heap.size w50 w60 := (Below.refl _ _).grown hgr (Nat.le_refl _) (fun x e => by cases e)
        have hod := OwnT.drop1 HO.out (by have := HL.out; omega) ho b1
        have HO3 := Lib.hid hod
        clear HO
        have HO := HO3
        clear HO3 ho hgr hod HRL hi hz0 hz1 hz2
        have RTn := Lib.hid (RT.out.below b1 RT.out.lt)
        clear RT
        have RT := RTn
        clear RTn
        have K4n := Lib.hid (K4.out.below b1 K4.out.lt)
        clear K4
        have K4 := K4n
        clear K4n
        have K6n := Lib.hid (K6.out.below b1 K6.out.lt)
        clear K6
        have K6 := K6n
        clear K6n
        have HBn := Lib.hid (HB.out.trans (b1.mono HB.out.size))
        clear HB
        have HB := HBn
        clear HBn
        clear b1
        obtain ⟨A9, c9, rfl, hc91, hc92, hA9, _⟩ := HO.out.shape
        have HA9 := Lib.hid (And.intro hA9 (And.intro hc91 hc92))
        clear hA9 hc91 hc92
        go_wp2_with (refine wpList_st rfl 40 (.tmp 42) (.tmp 41) rfl N11 46 rfl (.slice A9 l c9) (#[.slice A9 l c9]) rfl rfl info_lt one_sl K6.out (Nat.le_of_ble_eq_true rfl) (C' := pdC (withT p A9 l c9)) (pd_put _ _ _ _) ?_; intro w70 q1; refine Hid.out ?_)
        refine Lib.hid ?_
        have HO3 := Lib.hid (OwnT.farT HO.out K6.out q1)
        have RTn := Lib.hid (RT.out.far q1 (by omega))
        clear RT
        have RT := RTn
        clear RTn
        have K4n := Lib.hid (K4.out.far q1 (by omega))
        clear K4
        have K4 := K4n
        clear K4n
        have HBn := Lib.hid (HB.out.trans (q1.2.1 _ (by omega)))
        clear HB
        have HB := HBn
        clear HBn
        have K6n : Hid (Blk 46 w70 N11 (pdC (withT p A9 l c9))) := Lib.hid q1.1
        clear K6
        have K6 := K6n
        clear K6n q1
        clear HO
        have HO := HO3
        clear HO3
        go_wp2_with (refine wpList_ld (op := ⟨some 43, _, _, _, _, _⟩) (by rfl) 46 (.tmp 6) rfl N11 0 rfl (pdC (withT p A9 l c9)) _ K6.out.all Tryd.underlying46 rfl info_pdP ?_; refine Hid.out ?_)
        refine Lib.hid ?_
        go_wp2_with (refine wpList_st rfl 46 (.tmp 4) (.tmp 43) rfl N1 0 rfl (.agg (pdC (withT p A9 l c9))) (pdC (withT p A9 l c9)) rfl rfl info_pdP (pdC_one _) K4.out (Nat.le_of_ble_eq_true rfl) (C' := pdC (withT p A9 l c9)) (pd_over _ _) ?_; intro w80 q1; refine Hid.out ?_)
        refine Lib.hid ?_
        have HO3 := Lib.hid (OwnT.farT HO.out K4.out q1)
        have RTn := Lib.hid (RT.out.far q1 (by omega))
        clear RT
        have RT := RTn
        clear RTn
        have K6n := Lib.hid (K6.out.far q1 (by omega))
        clear K6
        have K6 := K6n
        clear K6n
        have HBn := Lib.hid (HB.out.trans (q1.2.1 _ (by omega)))
        clear HB
        have HB := HBn
        clear HBn
        have K4n : Hid (Blk 46 w80 N1 (pdC (withT p A9 l c9))) := Lib.hid q1.1
        clear K4
        have K4 := K4n
        clear K4n q1
        clear HO
        have HO := HO3
        clear HO3
        go_wp2_with fail
        have hml : m - 1 = l := by have := HL.out; omega
        exact bodyPost_ret (results_2 rfl _ _ N1 (pdC (withT p A9 l c9)) (.int .i64 0) Tryd.underlying46 rfl info_pdP rfl rfl K4.out) rfl (.inr (.inr (.inl ⟨HX.out, hkp, HSG.out, A9, c9, L, by rw [← HP.out, hml]; rfl, by rw [hml]; exact HO.out, fun j hj => HI.out j (by omega), by rw [hml]; exact HA9.out.1, by rw [hml]; exact HA9.out.2.1, HA9.out.2.2, HB.out⟩)))
  · have hXb : (X != 0) = true := by simpa using hX0
    have HX0 := Lib.hid hX0
    clear hX hX0
    go_wp2_with (refine wpList_v (op := ⟨some 20, _, _, _, _, _⟩) rfl (.agg (pdC pd0)) (build_pd0 _ _ rfl _) ?_; refine Hid.out ?_)
    refine Lib.hid ?_
    go_wp2_with (refine wpList_st rfl 46 (.tmp 4) (.tmp 20) rfl N1 0 rfl (.agg (pdC pd0)) (pdC pd0) rfl rfl info_pdP (pdC_one _) K4.out (Nat.le_of_ble_eq_true rfl) (C' := pdC pd0) (pd_over _ _) ?_; intro w40 q1; refine Hid.out ?_)
    refine Lib.hid ?_
    have RTn := Lib.hid (RT.out.far q1 (by omega))
    clear RT
    have RT := RTn
    clear RTn
    have K6n := Lib.hid (K6.out.far q1 (by omega))
    clear K6
    have K6 := K6n
    clear K6n
    have HBn := Lib.hid (HB.out.trans (q1.2.1 _ (by omega)))
    clear HB
    have HB := HBn
    clear HBn
    have K4n : Hid (Blk 46 w40 N1 (pdC pd0)) := Lib.hid q1.1
    clear K4
    have K4 := K4n
    clear K4n q1
    go_wp2_with fail
    exact bodyPost_ret (results_2 rfl _ _ N1 (pdC (pd0)) (.int .i64 X) Tryd.underlying46 rfl info_pdP rfl rfl K4.out) rfl (.inl ⟨by rw [HX.out]; exact HX0.out, by rw [HX.out]; exact ⟨rfl, HB.out⟩⟩)
end Go.Proofs.YtccoicjmmeoggaaDoor
