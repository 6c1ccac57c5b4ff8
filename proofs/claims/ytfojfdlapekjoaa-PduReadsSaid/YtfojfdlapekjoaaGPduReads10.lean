/- Texts of this claim put together; each theorem states its conditions. -/
import Derived.Test.YtfojfdlapekjoaaGPduReads9
import Derived.Test.YtfojfdlapekjoaaGPduReads6
/- The document's DocRead: what it answers, for all bytes. Each theorem states its conditions. -/
namespace Go.Proofs.Ytfojfdlapekjoaa
open Go.RowKit
set_option linter.unusedVariables false

set_option maxHeartbeats 40000000 in
set_option maxRecDepth 100000 in
theorem dr_main (b off n c : Nat) (z : Nat → Int) (w : World) (hr : Row8 w b off n z) (hc : n ≤ c) (hcm : c ≤ maxLen) (hn2 : n ≤ 1492) (h8 : 8 ≤ n) (q : Nat) (hk : cls (z 4) = q) (hq : q ≤ 4) (hh : hdN q ≤ n) (m : Nat) (hm : Ends (tlZ q z) (n - hdN q) m) :
    Calls Try.prog 20 #[.slice (some ⟨b, off, none⟩) n c] w (DrP w q z n m) := by
  obtain ⟨W1, hW1⟩ : ∃ W1, w.alloc (.cells (pdC pd0) 31) = W1 := ⟨_, rfl⟩
  obtain ⟨X, hX⟩ : ∃ X, w.heap.size = X := ⟨_, rfl⟩
  have HX1 : Hid (PdT 31 W1 X pd0) := Lib.hid (by rw [← hW1, ← hX]; exact heap_alloc_new w _)
  have HB1 : Hid (Below w.heap.size w W1) := Lib.hid (by rw [← hW1]; exact (bself w).alloc (Nat.le_refl _) _)
  have HW1 := Lib.hid hW1
  have HXW := Lib.hid hX
  have hXle : w.heap.size ≤ X := by omega
  have fl1 : decide ((1492 : Int) < (n : Int)) = false := by simp; omega
  clear hW1 hX
  have hcm2 : c ≤ 9223372036854775807 := by unfold maxLen at hcm; omega
  have fl8 : decide ((n : Int) < 8) = false := by simp; omega
  have c4 : W1.cell? ⟨b, off + 4, none⟩ = some (.int .u8 (z 4)) := by rw [← hr.2.1 4 (by omega)]; exact HB1.out.cell hr.1
  have HH := Lib.hid (refHead_any (z 4) q hk hq)
  have h4n : (4 : Int) < (n : Int) := by omega
  have h17 := hdN_bd q hq
  have HM := Lib.hid hm
  have hbw : b < w.heap.size := hr.1
  have HR1 : Hid (Row8 W1 b off n z) := Lib.hid (row_keep hr (HB1.out.block _ hr.1))
  have HKQ := Lib.hid (And.intro hk hq)
  obtain ⟨H, hH⟩ : ∃ H, hdN q = H := ⟨_, rfl⟩
  have HHQ := Lib.hid hH
  rw [hH] at HH hh h17 HM
  have fH : ((H : Int) == 0) = false := by simp; omega
  have fl9 : decide ((n : Int) < (H : Int)) = false := by simp; omega
  obtain ⟨P, hP⟩ : ∃ P, W1.heap.size = P := ⟨_, rfl⟩
  obtain ⟨W2, hW2⟩ : ∃ W2, W1.alloc (.cells (pdC pd0) 31) = W2 := ⟨_, rfl⟩
  have HM2 : Hid (PdT 31 W2 P pd0) := Lib.hid (by rw [← hW2, ← hP]; exact heap_alloc_new W1 _)
  have HB2 : Hid (Below P W1 W2) := Lib.hid (by rw [← hW2, ← hP]; exact (bself W1).alloc (Nat.le_refl _) _)
  have HP := Lib.hid hP
  have HW2 := Lib.hid hW2
  have hXP : X < P := by rw [← hP]; exact HX1.out.lt
  have hpz : W2.heap.size = P + 1 := by rw [← hW2, ← hP]; simp
  clear hr hk hH hm hq hP hW2
  go_enter Try.func20, Try.ntmps20
  go_wp2_with (refine wpList_v (op := ⟨some 2, _, _, _, _, _⟩) rfl _ (alloc_R' _ _ rfl w W1 X HXW.out HW1.out) ?_)
  refine (HH.out _).mono ?_
  rintro e wx ⟨rfl, rfl⟩
  go_wp2_with fail
  refine (HH.out _).mono ?_
  rintro e wx ⟨rfl, rfl⟩
  go_wp2_with (first
    | (refine wpList_v (op := ⟨some 36, _, _, _, _, _⟩) rfl _ (build_1d _ _ (.tmp 35) rfl (z 4) rfl _) ?_)
    | (refine wpList_v (op := ⟨some 4, _, _, _, _, _⟩) rfl _ (alloc_R' _ _ rfl W1 W2 P HP.out HW2.out) ?_)
    | (refine wpList_st rfl 31 (.tmp 4) (.tmp 36) rfl P 0 rfl (.agg (pdC (kdP (z 4)))) (pdC (kdP (z 4))) rfl rfl info_pdR (pdC_one _) HM2.out (Nat.le_of_ble_eq_true rfl) (pd_all _ _) ?_; intro w3 hst3; refine Hid.out ?_))
  refine Lib.hid ?_
  have hb13 : Below P W1 w3 := HB2.out.trans (hst3.2.1 P (Nat.le_refl _))
  have HD3 : Hid (PdT 31 w3 P (kdP (z 4))) := Lib.hid hst3.1
  have HX3 : Hid (PdT 31 w3 X pd0) := Lib.hid ((hb13.block _ hXP).trans HX1.out)
  have HR3 : Hid (Row8 w3 b off n z) := Lib.hid (row_keep HR1.out (hb13.block _ (by omega)))
  have HB3 : Hid (Below w.heap.size w w3) := Lib.hid (HB1.out.trans (hb13.mono (by omega)))
  have hP3 : P < w3.heap.size := HD3.out.lt
  have c0 : w3.cell? ⟨P, 0, none⟩ = some (.int .u8 (z 4)) := (HD3.out.cell 0).trans (pdC_0 _)
  clear hst3 hb13 HM2 HB2 HX1 HR1 HB1 c4 HW2 HP HW1 HXW
  go_wp2_with fail
  refine (HH.out _).mono ?_
  rintro e wx ⟨rfl, rfl⟩
  obtain ⟨AS, hAS⟩ : ∃ AS, (if c = H then some ⟨b, off, none⟩ else some ⟨b, off + H, none⟩ : Option Addr) = AS := ⟨_, rfl⟩
  have HSL := Lib.hid (run_from w3 b off n c H hh hc hcm2)
  have HRS : Hid (Rd w3 AS (n - H) (tlZ q z)) := Lib.hid (by rw [← hAS]; unfold tlZ; rw [HHQ.out]; exact rd_from HR3.out hh hc)
  have hASn : AS ≠ none := by rw [← hAS]; split <;> simp
  rw [hAS] at HSL
  clear hAS
  go_wp2_with (refine wpList_v (op := ⟨some 42, _, _, _, _, _⟩) rfl _ (slice_op _ _ (.tmp 38) (.tmp 41) rfl _ _ rfl rfl _ HSL.out) ?_)
  refine (docsplit_any AS (n - H) (c - H) m (tlZ q z) w3 HRS.out (fun h => absurd h hASn) (by omega) (by omega) (by omega) HM.out).mono ?_
  rintro e w4 (⟨hps, v4, L, rfl, hoT, hI, hb⟩ | ⟨hps, rfl, hb⟩)
  rotate_left
  · have HX4 := Lib.hid (HX3.out.below hb HX3.out.lt)
    have HB4 := Lib.hid (HB3.out.trans (hb.mono HB3.out.size))
    have HPS := Lib.hid hps
    clear hb hps HX3 HB3 HD3 HR3 c0
    go_wp2_with (first
      | (refine wpList_v (op := ⟨some 48, _, _, _, _, _⟩) rfl _ (build_0d _ _ rfl _) ?_)
      | (refine wpList_st rfl 31 (.tmp 2) (.tmp 48) rfl X 0 rfl (.agg (pdC pd0)) (pdC pd0) rfl rfl info_pdR (pdC_one _) HX4.out (Nat.le_of_ble_eq_true rfl) (pd_all _ _) ?_; intro w2 hst2; refine Hid.out ?_))
    refine Lib.hid ?_
    have HX2 : Hid (PdT 31 w2 X pd0) := Lib.hid hst2.1
    have HB2 : Hid (Below w.heap.size w w2) := Lib.hid (HB4.out.trans (hst2.2.1 _ hXle))
    clear hst2
    go_wp2_with fail
    refine bodyPost_ret (results_dr rfl _ w2 X pd0 (.int .i64 3) rfl HX2.out rfl) rfl (.inl ⟨fun h => HPS.out (by rw [← HHQ.out]; exact h.1), rfl, HB2.out⟩)
  obtain ⟨A, cL, rfl, hmc, hcL, hAn, hRT⟩ := hoT.shape
  have HD4 : Hid (DrS w P X b off n z w3.heap.size A m cL L (kdP (z 4)) w4) := Lib.hid ⟨HD3.out.below hb HD3.out.lt, HX3.out.below hb HX3.out.lt, row_keep HR3.out (hb.block _ HR3.out.1), HB3.out.trans (hb.mono HB3.out.size), hoT, hXP, hXle, hbw, hP3, hb.size⟩
  obtain ⟨B, hB⟩ : ∃ B, w3.heap.size = B := ⟨_, rfl⟩
  rw [hB] at HD4
  have HPS := Lib.hid hps
  have HI := Lib.hid hI
  have HAN := Lib.hid (And.intro hAn (And.intro hmc hcL))
  have HWB : w.heap.size ≤ B := by rw [← hB]; exact HB3.out.size
  clear hb hps hI hAn hmc hcL hoT hRT HD3 HX3 HR3 HB3 c0 hP3 HRS HSL hB
  have f30 : ((0 : Int) != 0) = false := rfl
  go_wp2_with (refine wpList_st rfl 29 (.tmp 50) (.tmp 49) rfl P 46 rfl (.slice A m cL) #[.slice A m cL] rfl rfl (by kernel_rfl) (by kernel_rfl) HD4.out.1 (Nat.le_of_ble_eq_true rfl) (C' := pdC (withT (kdP (z 4)) A m cL)) (by kernel_rfl) ?_; intro wq hst5; refine Hid.out ?_)
  refine Lib.hid ?_
  have HD := Lib.hid (HD4.out.put hst5)
  clear hst5 HD4
  have c0 : wq.cell? ⟨P, 0, none⟩ = some (.int .u8 (z 4)) := (HD.out.1.cell 0).trans (pdC_0 _)
  go_upto_block 0 with fail
  go_cut [] (fun wc => Hid (DrS w P X b off n z B A m cL L (swP q z A m cL) wc))
  case first =>
    clear c0 HH HM HI HPS HAN fl1 fl8 fl9 fH f30
    obtain ⟨hk, hq⟩ := HKQ.out
    have hhq := HHQ.out
    clear HKQ HHQ
    rcases cls_cases (z 4) q hk hq with ⟨hk4, rfl⟩ | ⟨hk4, rfl⟩ | ⟨hk4, rfl⟩ | ⟨hk4, rfl⟩ | ⟨hk4, rfl⟩ | ⟨hk4, rfl⟩ | ⟨hk4, rfl⟩ | ⟨hk4, rfl⟩ | ⟨hk4, rfl⟩
    · as_aux_lemma =>
      clear hk hq
      have f15 : (z 4 == 15) = false := by rw [hk4]; rfl
      have f16 : (z 4 == 16) = false := by rw [hk4]; rfl
      have f17 : (z 4 == 17) = true := by rw [hk4]; rfl
      have f18 : (z 4 == 18) = false := by rw [hk4]; rfl
      have f20 : (z 4 == 20) = false := by rw [hk4]; rfl
      have f24 : (z 4 == 24) = false := by rw [hk4]; rfl
      have f25 : (z 4 == 25) = false := by rw [hk4]; rfl
      clear hk4
      have hHn : 20 ≤ n := by have : hdN 0 = 20 := rfl; omega
      clear hhq hh h17
      go_wp2_with fail
      have HDd := Lib.hid (HD.out.below (bself wq).drew)
      refine wp_region_held_drew (S := fun w' => Row8 w' b off n z) (by kernel_rfl) HDd.out.2.2.1 (fun hS => ?_)
      generalize hWq : wq.drew = Wq at hS HDd ⊢
      clear hWq HD
      have HD := HDd
      clear HDd
      refine takeY (i := 0) (some 78) (v := .slice (some ⟨b, off, none⟩) n c) rfl rfl (by kernel_rfl) (by kernel_rfl) (by kernel_rfl) (fun _ _ _ h => h) (by rfl) (fun w' hS => by go_simp) hS ?_
      simp only [Act.put, List.setIfInBounds_toArray, List.set_cons_zero, List.set_cons_succ]
      refine takeY (i := 1) (some 79) (v := .pointer (some ⟨b, off + 8, none⟩)) rfl rfl (by kernel_rfl) (by kernel_rfl) (by kernel_rfl) (fun _ _ _ h => h) (by rfl) (fun w' hS => by (have hx : (8 : Int) < (n : Int) := (by omega); clear hS; go_simp)) hS ?_
      simp only [Act.put, List.setIfInBounds_toArray, List.set_cons_zero, List.set_cons_succ]
      refine takeY (i := 2) (some 80) (v := .int .u8 (z 8)) rfl rfl (by kernel_rfl) (by kernel_rfl) (by kernel_rfl) (fun _ _ _ h => h) (by rfl) (fun w' hS => by (have c9 : w'.cell? ⟨b, off + 8, none⟩ = some (.int .u8 (z 8))   := (hS.2.1 8 (by omega)); clear hS; go_simp)) hS ?_
      simp only [Act.put, List.setIfInBounds_toArray, List.set_cons_zero, List.set_cons_succ]
      refine takeY (i := 3) (some 81) (v := .slice (some ⟨b, off, none⟩) n c) rfl rfl (by kernel_rfl) (by kernel_rfl) (by kernel_rfl) (fun _ _ _ h => h) (by rfl) (fun w' hS => by go_simp) hS ?_
      simp only [Act.put, List.setIfInBounds_toArray, List.set_cons_zero, List.set_cons_succ]
      refine takeY (i := 4) (some 82) (v := .slice (some ⟨b, off + 15, none⟩) (n - 15) (c - 15)) rfl rfl (by kernel_rfl) (by kernel_rfl) (by kernel_rfl) (fun _ _ _ h => h) (by rfl) (fun w' hS => by exact slice_in _ _ _ (.tmp 81) b off n c 15 15 rfl rfl rfl rfl (by omega) hc (by omega)) hS ?_
      simp only [Act.put, List.setIfInBounds_toArray, List.set_cons_zero, List.set_cons_succ]
      refine takeY (i := 6) (some 84) (v := .slice (some ⟨b, off, none⟩) n c) rfl rfl (by kernel_rfl) (by kernel_rfl) (by kernel_rfl) (fun _ _ _ h => h) (by rfl) (fun w' hS => by go_simp) hS ?_
      simp only [Act.put, List.setIfInBounds_toArray, List.set_cons_zero, List.set_cons_succ]
      refine takeY (i := 7) (some 85) (v := .pointer (some ⟨b, off + 19, none⟩)) rfl rfl (by kernel_rfl) (by kernel_rfl) (by kernel_rfl) (fun _ _ _ h => h) (by rfl) (fun w' hS => by (have hx : (19 : Int) < (n : Int) := (by omega); clear hS; go_simp)) hS ?_
      simp only [Act.put, List.setIfInBounds_toArray, List.set_cons_zero, List.set_cons_succ]
      refine takeY (i := 8) (some 86) (v := .int .u8 (z 19)) rfl rfl (by kernel_rfl) (by kernel_rfl) (by kernel_rfl) (fun _ _ _ h => h) (by rfl) (fun w' hS => by (have c9 : w'.cell? ⟨b, off + 19, none⟩ = some (.int .u8 (z 19))   := (hS.2.1 19 (by omega)); clear hS; go_simp)) hS ?_
      simp only [Act.put, List.setIfInBounds_toArray, List.set_cons_zero, List.set_cons_succ]
      refine takeY (i := 9) (some 87) (v := .pointer (some ⟨P, 1, none⟩)) rfl rfl (by kernel_rfl) (by kernel_rfl) (by kernel_rfl) (fun _ _ _ h => h) (by rfl) (fun w' hS => by go_simp) hS ?_
      simp only [Act.put, List.setIfInBounds_toArray, List.set_cons_zero, List.set_cons_succ]
      refine takeC (i := 5) (some 83) 46 #[.slice (some ⟨b, off + 15, none⟩) (n - 15) (c - 15)] (.int .i64 (((numZ (fun j => z (15 + j)) 0 2).toNat : Nat) : Int)) (R := fun w' => Below Wq.heap.size Wq w') rfl rfl (by kernel_rfl) (by rfl) (by go_simp) (number_two b (off + 15) (n - 15) (c - 15) (fun j => z (15 + j)) Wq (hS.shift 15 _ (by omega)) (by omega)) (fun w' hb => row_keep hS (hb.block _ hS.1)) (fun Wn hb1 hS2 => ?_)
      simp only [Act.put, List.setIfInBounds_toArray, List.set_cons_zero, List.set_cons_succ]
      have HDn := Lib.hid (HD.out.below hb1)
      clear HD hS hb1
      have HD := HDn
      have hS := hS2
      clear HDn hS2
      revert hS HD
      generalize Wn = Wq
      intro HD hS
      refine takeSt (i := 10) 5 (.tmp 87) (.tmp 80) P 1 (.int .u8 (z (8 + 0))) #[.int .u8 (z (8 + 0))] (pdC (drSet_ci (withT (kdP (z 4)) A m cL) (z (8 + 0)))) rfl rfl (by kernel_rfl) (by rfl) rfl rfl rfl rfl (by kernel_rfl) (by kernel_rfl) HD.out.1 (Nat.le_of_ble_eq_true rfl) (drPut_ci _ _) (fun Wn q1 => ⟨row_keep hS (q1.2.2 _ (by have := HD.out.2.2.2.2.2; omega)), ?_⟩)
      simp only [Act.put, List.setIfInBounds_toArray, List.set_cons_zero, List.set_cons_succ]
      have hSn := row_keep hS (q1.2.2 _ (by have := HD.out.2.2.2.2.2; omega))
      have HDn := Lib.hid (HD.out.put (y := (drSet_ci (withT (kdP (z 4)) A m cL) (z (8 + 0)))) q1)
      clear HD hS q1
      have HD := HDn
      have hS := hSn
      clear HDn hSn
      revert hS HD
      generalize Wn = Wq
      intro HD hS
      refine takeY (i := 11) (some 88) (v := .pointer (some ⟨P, 9, none⟩)) rfl rfl (by kernel_rfl) (by kernel_rfl) (by kernel_rfl) (fun _ _ _ h => h) (by rfl) (fun w' hS => by go_simp) hS ?_
      simp only [Act.put, List.setIfInBounds_toArray, List.set_cons_zero, List.set_cons_succ]
      refine takeSt (i := 12) 3 (.tmp 88) (.tmp 83) P 9 (.int .i64 ((((numZ (fun j => z (15 + j)) 0 2).toNat : Nat) : Int))) #[.int .i64 ((((numZ (fun j => z (15 + j)) 0 2).toNat : Nat) : Int))] (pdC (drSet_ho (drSet_ci (withT (kdP (z 4)) A m cL) (z (8 + 0))) ((((numZ (fun j => z (15 + j)) 0 2).toNat : Nat) : Int)))) rfl rfl (by kernel_rfl) (by rfl) rfl rfl rfl rfl (by kernel_rfl) (by kernel_rfl) HD.out.1 (Nat.le_of_ble_eq_true rfl) (drPut_ho _ _) (fun Wn q1 => ⟨row_keep hS (q1.2.2 _ (by have := HD.out.2.2.2.2.2; omega)), ?_⟩)
      simp only [Act.put, List.setIfInBounds_toArray, List.set_cons_zero, List.set_cons_succ]
      have hSn := row_keep hS (q1.2.2 _ (by have := HD.out.2.2.2.2.2; omega))
      have HDn := Lib.hid (HD.out.put (y := (drSet_ho (drSet_ci (withT (kdP (z 4)) A m cL) (z (8 + 0))) ((((numZ (fun j => z (15 + j)) 0 2).toNat : Nat) : Int)))) q1)
      clear HD hS q1
      have HD := HDn
      have hS := hSn
      clear HDn hSn
      revert hS HD
      generalize Wn = Wq
      intro HD hS
      refine takeY (i := 13) (some 89) (v := .pointer (some ⟨P, 10, none⟩)) rfl rfl (by kernel_rfl) (by kernel_rfl) (by kernel_rfl) (fun _ _ _ h => h) (by rfl) (fun w' hS => by go_simp) hS ?_
      simp only [Act.put, List.setIfInBounds_toArray, List.set_cons_zero, List.set_cons_succ]
      refine takeSt (i := 14) 5 (.tmp 89) (.tmp 86) P 10 (.int .u8 (z (19 + 0))) #[.int .u8 (z (19 + 0))] (pdC (drSet_nu (drSet_ho (drSet_ci (withT (kdP (z 4)) A m cL) (z (8 + 0))) ((((numZ (fun j => z (15 + j)) 0 2).toNat : Nat) : Int))) (z (19 + 0)))) rfl rfl (by kernel_rfl) (by rfl) rfl rfl rfl rfl (by kernel_rfl) (by kernel_rfl) HD.out.1 (Nat.le_of_ble_eq_true rfl) (drPut_nu _ _) (fun Wn q1 => ⟨row_keep hS (q1.2.2 _ (by have := HD.out.2.2.2.2.2; omega)), ?_⟩)
      simp only [Act.put, List.setIfInBounds_toArray, List.set_cons_zero, List.set_cons_succ]
      have hSn := row_keep hS (q1.2.2 _ (by have := HD.out.2.2.2.2.2; omega))
      have HDn := Lib.hid (HD.out.put (y := (drSet_nu (drSet_ho (drSet_ci (withT (kdP (z 4)) A m cL) (z (8 + 0))) ((((numZ (fun j => z (15 + j)) 0 2).toNat : Nat) : Int))) (z (19 + 0)))) q1)
      clear HD hS q1
      have HD := HDn
      have hS := hSn
      clear HDn hSn
      revert hS HD
      generalize Wn = Wq
      intro HD hS
      clear hS
      refine wpAnyH_done (by kernel_rfl) ?_ _
      go_wp2_with fail
      go_meet
      case rel => exact Lib.hid (HD.out.eq (swD_0 z A m cL))
    · as_aux_lemma =>
      clear hk hq
      have f15 : (z 4 == 15) = true := by rw [hk4]; rfl
      have f16 : (z 4 == 16) = false := by rw [hk4]; rfl
      have f17 : (z 4 == 17) = false := by rw [hk4]; rfl
      have f18 : (z 4 == 18) = false := by rw [hk4]; rfl
      have f20 : (z 4 == 20) = false := by rw [hk4]; rfl
      have f24 : (z 4 == 24) = false := by rw [hk4]; rfl
      have f25 : (z 4 == 25) = false := by rw [hk4]; rfl
      clear hk4
      have hHn : 27 ≤ n := by have : hdN 1 = 27 := rfl; omega
      clear hhq hh h17
      go_wp2_with fail
      have HDd := Lib.hid (HD.out.below (bself wq).drew)
      refine wp_region_held_drew (S := fun w' => Row8 w' b off n z) (by kernel_rfl) HDd.out.2.2.1 (fun hS => ?_)
      generalize hWq : wq.drew = Wq at hS HDd ⊢
      clear hWq HD
      have HD := HDd
      clear HDd
      refine takeY (i := 0) (some 60) (v := .slice (some ⟨b, off, none⟩) n c) rfl rfl (by kernel_rfl) (by kernel_rfl) (by kernel_rfl) (fun _ _ _ h => h) (by rfl) (fun w' hS => by go_simp) hS ?_
      simp only [Act.put, List.setIfInBounds_toArray, List.set_cons_zero, List.set_cons_succ]
      refine takeY (i := 1) (some 61) (v := .pointer (some ⟨b, off + 8, none⟩)) rfl rfl (by kernel_rfl) (by kernel_rfl) (by kernel_rfl) (fun _ _ _ h => h) (by rfl) (fun w' hS => by (have hx : (8 : Int) < (n : Int) := (by omega); clear hS; go_simp)) hS ?_
      simp only [Act.put, List.setIfInBounds_toArray, List.set_cons_zero, List.set_cons_succ]
      refine takeY (i := 2) (some 62) (v := .int .u8 (z 8)) rfl rfl (by kernel_rfl) (by kernel_rfl) (by kernel_rfl) (fun _ _ _ h => h) (by rfl) (fun w' hS => by (have c9 : w'.cell? ⟨b, off + 8, none⟩ = some (.int .u8 (z 8))   := (hS.2.1 8 (by omega)); clear hS; go_simp)) hS ?_
      simp only [Act.put, List.setIfInBounds_toArray, List.set_cons_zero, List.set_cons_succ]
      refine takeY (i := 3) (some 63) (v := .slice (some ⟨b, off, none⟩) n c) rfl rfl (by kernel_rfl) (by kernel_rfl) (by kernel_rfl) (fun _ _ _ h => h) (by rfl) (fun w' hS => by go_simp) hS ?_
      simp only [Act.put, List.setIfInBounds_toArray, List.set_cons_zero, List.set_cons_succ]
      refine takeY (i := 4) (some 64) (v := .slice (some ⟨b, off + 15, none⟩) (n - 15) (c - 15)) rfl rfl (by kernel_rfl) (by kernel_rfl) (by kernel_rfl) (fun _ _ _ h => h) (by rfl) (fun w' hS => by exact slice_in _ _ _ (.tmp 63) b off n c 15 15 rfl rfl rfl rfl (by omega) hc (by omega)) hS ?_
      simp only [Act.put, List.setIfInBounds_toArray, List.set_cons_zero, List.set_cons_succ]
      refine takeY (i := 6) (some 66) (v := .slice (some ⟨b, off, none⟩) n c) rfl rfl (by kernel_rfl) (by kernel_rfl) (by kernel_rfl) (fun _ _ _ h => h) (by rfl) (fun w' hS => by go_simp) hS ?_
      simp only [Act.put, List.setIfInBounds_toArray, List.set_cons_zero, List.set_cons_succ]
      refine takeY (i := 7) (some 67) (v := .pointer (some ⟨b, off + 19, none⟩)) rfl rfl (by kernel_rfl) (by kernel_rfl) (by kernel_rfl) (fun _ _ _ h => h) (by rfl) (fun w' hS => by (have hx : (19 : Int) < (n : Int) := (by omega); clear hS; go_simp)) hS ?_
      simp only [Act.put, List.setIfInBounds_toArray, List.set_cons_zero, List.set_cons_succ]
      refine takeY (i := 8) (some 68) (v := .int .u8 (z 19)) rfl rfl (by kernel_rfl) (by kernel_rfl) (by kernel_rfl) (fun _ _ _ h => h) (by rfl) (fun w' hS => by (have c9 : w'.cell? ⟨b, off + 19, none⟩ = some (.int .u8 (z 19))   := (hS.2.1 19 (by omega)); clear hS; go_simp)) hS ?_
      simp only [Act.put, List.setIfInBounds_toArray, List.set_cons_zero, List.set_cons_succ]
      refine takeY (i := 9) (some 69) (v := .slice (some ⟨b, off, none⟩) n c) rfl rfl (by kernel_rfl) (by kernel_rfl) (by kernel_rfl) (fun _ _ _ h => h) (by rfl) (fun w' hS => by go_simp) hS ?_
      simp only [Act.put, List.setIfInBounds_toArray, List.set_cons_zero, List.set_cons_succ]
      refine takeY (i := 10) (some 70) (v := .slice (some ⟨b, off + 20, none⟩) (n - 20) (c - 20)) rfl rfl (by kernel_rfl) (by kernel_rfl) (by kernel_rfl) (fun _ _ _ h => h) (by rfl) (fun w' hS => by exact slice_in _ _ _ (.tmp 69) b off n c 20 20 rfl rfl rfl rfl (by omega) hc (by omega)) hS ?_
      simp only [Act.put, List.setIfInBounds_toArray, List.set_cons_zero, List.set_cons_succ]
      refine takeY (i := 12) (some 72) (v := .pointer (some ⟨P, 1, none⟩)) rfl rfl (by kernel_rfl) (by kernel_rfl) (by kernel_rfl) (fun _ _ _ h => h) (by rfl) (fun w' hS => by go_simp) hS ?_
      simp only [Act.put, List.setIfInBounds_toArray, List.set_cons_zero, List.set_cons_succ]
      refine takeC (i := 5) (some 65) 46 #[.slice (some ⟨b, off + 15, none⟩) (n - 15) (c - 15)] (.int .i64 (((numZ (fun j => z (15 + j)) 0 2).toNat : Nat) : Int)) (R := fun w' => Below Wq.heap.size Wq w') rfl rfl (by kernel_rfl) (by rfl) (by go_simp) (number_two b (off + 15) (n - 15) (c - 15) (fun j => z (15 + j)) Wq (hS.shift 15 _ (by omega)) (by omega)) (fun w' hb => row_keep hS (hb.block _ hS.1)) (fun Wn hb1 hS2 => ?_)
      simp only [Act.put, List.setIfInBounds_toArray, List.set_cons_zero, List.set_cons_succ]
      have HDn := Lib.hid (HD.out.below hb1)
      clear HD hS hb1
      have HD := HDn
      have hS := hS2
      clear HDn hS2
      revert hS HD
      generalize Wn = Wq
      intro HD hS
      refine takeC (i := 11) (some 71) 47 #[.slice (some ⟨b, off + 20, none⟩) (n - 20) (c - 20)] (.agg (ndC (fun j => z (20 + j)))) (R := fun w' => Below Wq.heap.size Wq w') rfl rfl (by kernel_rfl) (by rfl) (by go_simp) (nodeAt_any b (off + 20) (n - 20) (c - 20) (fun j => z (20 + j)) Wq (hS.shift 20 _ (by omega)) (by omega) (by omega)) (fun w' hb => row_keep hS (hb.block _ hS.1)) (fun Wn hb1 hS2 => ?_)
      simp only [Act.put, List.setIfInBounds_toArray, List.set_cons_zero, List.set_cons_succ]
      have HDn := Lib.hid (HD.out.below hb1)
      clear HD hS hb1
      have HD := HDn
      have hS := hS2
      clear HDn hS2
      revert hS HD
      generalize Wn = Wq
      intro HD hS
      refine takeSt (i := 13) 5 (.tmp 72) (.tmp 62) P 1 (.int .u8 (z (8 + 0))) #[.int .u8 (z (8 + 0))] (pdC (drSet_ci (withT (kdP (z 4)) A m cL) (z (8 + 0)))) rfl rfl (by kernel_rfl) (by rfl) rfl rfl rfl rfl (by kernel_rfl) (by kernel_rfl) HD.out.1 (Nat.le_of_ble_eq_true rfl) (drPut_ci _ _) (fun Wn q1 => ⟨row_keep hS (q1.2.2 _ (by have := HD.out.2.2.2.2.2; omega)), ?_⟩)
      simp only [Act.put, List.setIfInBounds_toArray, List.set_cons_zero, List.set_cons_succ]
      have hSn := row_keep hS (q1.2.2 _ (by have := HD.out.2.2.2.2.2; omega))
      have HDn := Lib.hid (HD.out.put (y := (drSet_ci (withT (kdP (z 4)) A m cL) (z (8 + 0)))) q1)
      clear HD hS q1
      have HD := HDn
      have hS := hSn
      clear HDn hSn
      revert hS HD
      generalize Wn = Wq
      intro HD hS
      refine takeY (i := 14) (some 73) (v := .pointer (some ⟨P, 9, none⟩)) rfl rfl (by kernel_rfl) (by kernel_rfl) (by kernel_rfl) (fun _ _ _ h => h) (by rfl) (fun w' hS => by go_simp) hS ?_
      simp only [Act.put, List.setIfInBounds_toArray, List.set_cons_zero, List.set_cons_succ]
      refine takeSt (i := 15) 3 (.tmp 73) (.tmp 65) P 9 (.int .i64 ((((numZ (fun j => z (15 + j)) 0 2).toNat : Nat) : Int))) #[.int .i64 ((((numZ (fun j => z (15 + j)) 0 2).toNat : Nat) : Int))] (pdC (drSet_ho (drSet_ci (withT (kdP (z 4)) A m cL) (z (8 + 0))) ((((numZ (fun j => z (15 + j)) 0 2).toNat : Nat) : Int)))) rfl rfl (by kernel_rfl) (by rfl) rfl rfl rfl rfl (by kernel_rfl) (by kernel_rfl) HD.out.1 (Nat.le_of_ble_eq_true rfl) (drPut_ho _ _) (fun Wn q1 => ⟨row_keep hS (q1.2.2 _ (by have := HD.out.2.2.2.2.2; omega)), ?_⟩)
      simp only [Act.put, List.setIfInBounds_toArray, List.set_cons_zero, List.set_cons_succ]
      have hSn := row_keep hS (q1.2.2 _ (by have := HD.out.2.2.2.2.2; omega))
      have HDn := Lib.hid (HD.out.put (y := (drSet_ho (drSet_ci (withT (kdP (z 4)) A m cL) (z (8 + 0))) ((((numZ (fun j => z (15 + j)) 0 2).toNat : Nat) : Int)))) q1)
      clear HD hS q1
      have HD := HDn
      have hS := hSn
      clear HDn hSn
      revert hS HD
      generalize Wn = Wq
      intro HD hS
      refine takeY (i := 16) (some 74) (v := .pointer (some ⟨P, 11, none⟩)) rfl rfl (by kernel_rfl) (by kernel_rfl) (by kernel_rfl) (fun _ _ _ h => h) (by rfl) (fun w' hS => by go_simp) hS ?_
      simp only [Act.put, List.setIfInBounds_toArray, List.set_cons_zero, List.set_cons_succ]
      refine takeSt (i := 17) 5 (.tmp 74) (.tmp 68) P 11 (.int .u8 (z (19 + 0))) #[.int .u8 (z (19 + 0))] (pdC (drSet_pr (drSet_ho (drSet_ci (withT (kdP (z 4)) A m cL) (z (8 + 0))) ((((numZ (fun j => z (15 + j)) 0 2).toNat : Nat) : Int))) (z (19 + 0)))) rfl rfl (by kernel_rfl) (by rfl) rfl rfl rfl rfl (by kernel_rfl) (by kernel_rfl) HD.out.1 (Nat.le_of_ble_eq_true rfl) (drPut_pr _ _) (fun Wn q1 => ⟨row_keep hS (q1.2.2 _ (by have := HD.out.2.2.2.2.2; omega)), ?_⟩)
      simp only [Act.put, List.setIfInBounds_toArray, List.set_cons_zero, List.set_cons_succ]
      have hSn := row_keep hS (q1.2.2 _ (by have := HD.out.2.2.2.2.2; omega))
      have HDn := Lib.hid (HD.out.put (y := (drSet_pr (drSet_ho (drSet_ci (withT (kdP (z 4)) A m cL) (z (8 + 0))) ((((numZ (fun j => z (15 + j)) 0 2).toNat : Nat) : Int))) (z (19 + 0)))) q1)
      clear HD hS q1
      have HD := HDn
      have hS := hSn
      clear HDn hSn
      revert hS HD
      generalize Wn = Wq
      intro HD hS
      refine takeY (i := 18) (some 75) (v := .pointer (some ⟨P, 12, none⟩)) rfl rfl (by kernel_rfl) (by kernel_rfl) (by kernel_rfl) (fun _ _ _ h => h) (by rfl) (fun w' hS => by go_simp) hS ?_
      simp only [Act.put, List.setIfInBounds_toArray, List.set_cons_zero, List.set_cons_succ]
      refine takeSt (i := 19) 25 (.tmp 75) (.tmp 71) P 12 (.agg (ndC (fun j => z (20 + j)))) (ndC (fun j => z (20 + j))) (pdC (drSet_la (drSet_pr (drSet_ho (drSet_ci (withT (kdP (z 4)) A m cL) (z (8 + 0))) ((((numZ (fun j => z (15 + j)) 0 2).toNat : Nat) : Int))) (z (19 + 0))) ((fun j => z (20 + j))))) rfl rfl (by kernel_rfl) (by rfl) rfl rfl rfl rfl info_node (nd_all _) HD.out.1 (Nat.le_of_ble_eq_true rfl) (drPut_la _ _) (fun Wn q1 => ⟨row_keep hS (q1.2.2 _ (by have := HD.out.2.2.2.2.2; omega)), ?_⟩)
      simp only [Act.put, List.setIfInBounds_toArray, List.set_cons_zero, List.set_cons_succ]
      have hSn := row_keep hS (q1.2.2 _ (by have := HD.out.2.2.2.2.2; omega))
      have HDn := Lib.hid (HD.out.put (y := (drSet_la (drSet_pr (drSet_ho (drSet_ci (withT (kdP (z 4)) A m cL) (z (8 + 0))) ((((numZ (fun j => z (15 + j)) 0 2).toNat : Nat) : Int))) (z (19 + 0))) ((fun j => z (20 + j))))) q1)
      clear HD hS q1
      have HD := HDn
      have hS := hSn
      clear HDn hSn
      revert hS HD
      generalize Wn = Wq
      intro HD hS
      clear hS
      refine wpAnyH_done (by kernel_rfl) ?_ _
      go_wp2_with fail
      go_meet
      case rel => exact Lib.hid (HD.out.eq (swD_1 z A m cL))
    · as_aux_lemma =>
      clear hk hq
      have f15 : (z 4 == 15) = false := by rw [hk4]; rfl
      have f16 : (z 4 == 16) = true := by rw [hk4]; rfl
      have f17 : (z 4 == 17) = false := by rw [hk4]; rfl
      have f18 : (z 4 == 18) = false := by rw [hk4]; rfl
      have f20 : (z 4 == 20) = false := by rw [hk4]; rfl
      have f24 : (z 4 == 24) = false := by rw [hk4]; rfl
      have f25 : (z 4 == 25) = false := by rw [hk4]; rfl
      clear hk4
      have hHn : 27 ≤ n := by have : hdN 1 = 27 := rfl; omega
      clear hhq hh h17
      go_wp2_with fail
      have HDd := Lib.hid (HD.out.below (bself wq).drew)
      refine wp_region_held_drew (S := fun w' => Row8 w' b off n z) (by kernel_rfl) HDd.out.2.2.1 (fun hS => ?_)
      generalize hWq : wq.drew = Wq at hS HDd ⊢
      clear hWq HD
      have HD := HDd
      clear HDd
      refine takeY (i := 0) (some 60) (v := .slice (some ⟨b, off, none⟩) n c) rfl rfl (by kernel_rfl) (by kernel_rfl) (by kernel_rfl) (fun _ _ _ h => h) (by rfl) (fun w' hS => by go_simp) hS ?_
      simp only [Act.put, List.setIfInBounds_toArray, List.set_cons_zero, List.set_cons_succ]
      refine takeY (i := 1) (some 61) (v := .pointer (some ⟨b, off + 8, none⟩)) rfl rfl (by kernel_rfl) (by kernel_rfl) (by kernel_rfl) (fun _ _ _ h => h) (by rfl) (fun w' hS => by (have hx : (8 : Int) < (n : Int) := (by omega); clear hS; go_simp)) hS ?_
      simp only [Act.put, List.setIfInBounds_toArray, List.set_cons_zero, List.set_cons_succ]
      refine takeY (i := 2) (some 62) (v := .int .u8 (z 8)) rfl rfl (by kernel_rfl) (by kernel_rfl) (by kernel_rfl) (fun _ _ _ h => h) (by rfl) (fun w' hS => by (have c9 : w'.cell? ⟨b, off + 8, none⟩ = some (.int .u8 (z 8))   := (hS.2.1 8 (by omega)); clear hS; go_simp)) hS ?_
      simp only [Act.put, List.setIfInBounds_toArray, List.set_cons_zero, List.set_cons_succ]
      refine takeY (i := 3) (some 63) (v := .slice (some ⟨b, off, none⟩) n c) rfl rfl (by kernel_rfl) (by kernel_rfl) (by kernel_rfl) (fun _ _ _ h => h) (by rfl) (fun w' hS => by go_simp) hS ?_
      simp only [Act.put, List.setIfInBounds_toArray, List.set_cons_zero, List.set_cons_succ]
      refine takeY (i := 4) (some 64) (v := .slice (some ⟨b, off + 15, none⟩) (n - 15) (c - 15)) rfl rfl (by kernel_rfl) (by kernel_rfl) (by kernel_rfl) (fun _ _ _ h => h) (by rfl) (fun w' hS => by exact slice_in _ _ _ (.tmp 63) b off n c 15 15 rfl rfl rfl rfl (by omega) hc (by omega)) hS ?_
      simp only [Act.put, List.setIfInBounds_toArray, List.set_cons_zero, List.set_cons_succ]
      refine takeY (i := 6) (some 66) (v := .slice (some ⟨b, off, none⟩) n c) rfl rfl (by kernel_rfl) (by kernel_rfl) (by kernel_rfl) (fun _ _ _ h => h) (by rfl) (fun w' hS => by go_simp) hS ?_
      simp only [Act.put, List.setIfInBounds_toArray, List.set_cons_zero, List.set_cons_succ]
      refine takeY (i := 7) (some 67) (v := .pointer (some ⟨b, off + 19, none⟩)) rfl rfl (by kernel_rfl) (by kernel_rfl) (by kernel_rfl) (fun _ _ _ h => h) (by rfl) (fun w' hS => by (have hx : (19 : Int) < (n : Int) := (by omega); clear hS; go_simp)) hS ?_
      simp only [Act.put, List.setIfInBounds_toArray, List.set_cons_zero, List.set_cons_succ]
      refine takeY (i := 8) (some 68) (v := .int .u8 (z 19)) rfl rfl (by kernel_rfl) (by kernel_rfl) (by kernel_rfl) (fun _ _ _ h => h) (by rfl) (fun w' hS => by (have c9 : w'.cell? ⟨b, off + 19, none⟩ = some (.int .u8 (z 19))   := (hS.2.1 19 (by omega)); clear hS; go_simp)) hS ?_
      simp only [Act.put, List.setIfInBounds_toArray, List.set_cons_zero, List.set_cons_succ]
      refine takeY (i := 9) (some 69) (v := .slice (some ⟨b, off, none⟩) n c) rfl rfl (by kernel_rfl) (by kernel_rfl) (by kernel_rfl) (fun _ _ _ h => h) (by rfl) (fun w' hS => by go_simp) hS ?_
      simp only [Act.put, List.setIfInBounds_toArray, List.set_cons_zero, List.set_cons_succ]
      refine takeY (i := 10) (some 70) (v := .slice (some ⟨b, off + 20, none⟩) (n - 20) (c - 20)) rfl rfl (by kernel_rfl) (by kernel_rfl) (by kernel_rfl) (fun _ _ _ h => h) (by rfl) (fun w' hS => by exact slice_in _ _ _ (.tmp 69) b off n c 20 20 rfl rfl rfl rfl (by omega) hc (by omega)) hS ?_
      simp only [Act.put, List.setIfInBounds_toArray, List.set_cons_zero, List.set_cons_succ]
      refine takeY (i := 12) (some 72) (v := .pointer (some ⟨P, 1, none⟩)) rfl rfl (by kernel_rfl) (by kernel_rfl) (by kernel_rfl) (fun _ _ _ h => h) (by rfl) (fun w' hS => by go_simp) hS ?_
      simp only [Act.put, List.setIfInBounds_toArray, List.set_cons_zero, List.set_cons_succ]
      refine takeC (i := 5) (some 65) 46 #[.slice (some ⟨b, off + 15, none⟩) (n - 15) (c - 15)] (.int .i64 (((numZ (fun j => z (15 + j)) 0 2).toNat : Nat) : Int)) (R := fun w' => Below Wq.heap.size Wq w') rfl rfl (by kernel_rfl) (by rfl) (by go_simp) (number_two b (off + 15) (n - 15) (c - 15) (fun j => z (15 + j)) Wq (hS.shift 15 _ (by omega)) (by omega)) (fun w' hb => row_keep hS (hb.block _ hS.1)) (fun Wn hb1 hS2 => ?_)
      simp only [Act.put, List.setIfInBounds_toArray, List.set_cons_zero, List.set_cons_succ]
      have HDn := Lib.hid (HD.out.below hb1)
      clear HD hS hb1
      have HD := HDn
      have hS := hS2
      clear HDn hS2
      revert hS HD
      generalize Wn = Wq
      intro HD hS
      refine takeC (i := 11) (some 71) 47 #[.slice (some ⟨b, off + 20, none⟩) (n - 20) (c - 20)] (.agg (ndC (fun j => z (20 + j)))) (R := fun w' => Below Wq.heap.size Wq w') rfl rfl (by kernel_rfl) (by rfl) (by go_simp) (nodeAt_any b (off + 20) (n - 20) (c - 20) (fun j => z (20 + j)) Wq (hS.shift 20 _ (by omega)) (by omega) (by omega)) (fun w' hb => row_keep hS (hb.block _ hS.1)) (fun Wn hb1 hS2 => ?_)
      simp only [Act.put, List.setIfInBounds_toArray, List.set_cons_zero, List.set_cons_succ]
      have HDn := Lib.hid (HD.out.below hb1)
      clear HD hS hb1
      have HD := HDn
      have hS := hS2
      clear HDn hS2
      revert hS HD
      generalize Wn = Wq
      intro HD hS
      refine takeSt (i := 13) 5 (.tmp 72) (.tmp 62) P 1 (.int .u8 (z (8 + 0))) #[.int .u8 (z (8 + 0))] (pdC (drSet_ci (withT (kdP (z 4)) A m cL) (z (8 + 0)))) rfl rfl (by kernel_rfl) (by rfl) rfl rfl rfl rfl (by kernel_rfl) (by kernel_rfl) HD.out.1 (Nat.le_of_ble_eq_true rfl) (drPut_ci _ _) (fun Wn q1 => ⟨row_keep hS (q1.2.2 _ (by have := HD.out.2.2.2.2.2; omega)), ?_⟩)
      simp only [Act.put, List.setIfInBounds_toArray, List.set_cons_zero, List.set_cons_succ]
      have hSn := row_keep hS (q1.2.2 _ (by have := HD.out.2.2.2.2.2; omega))
      have HDn := Lib.hid (HD.out.put (y := (drSet_ci (withT (kdP (z 4)) A m cL) (z (8 + 0)))) q1)
      clear HD hS q1
      have HD := HDn
      have hS := hSn
      clear HDn hSn
      revert hS HD
      generalize Wn = Wq
      intro HD hS
      refine takeY (i := 14) (some 73) (v := .pointer (some ⟨P, 9, none⟩)) rfl rfl (by kernel_rfl) (by kernel_rfl) (by kernel_rfl) (fun _ _ _ h => h) (by rfl) (fun w' hS => by go_simp) hS ?_
      simp only [Act.put, List.setIfInBounds_toArray, List.set_cons_zero, List.set_cons_succ]
      refine takeSt (i := 15) 3 (.tmp 73) (.tmp 65) P 9 (.int .i64 ((((numZ (fun j => z (15 + j)) 0 2).toNat : Nat) : Int))) #[.int .i64 ((((numZ (fun j => z (15 + j)) 0 2).toNat : Nat) : Int))] (pdC (drSet_ho (drSet_ci (withT (kdP (z 4)) A m cL) (z (8 + 0))) ((((numZ (fun j => z (15 + j)) 0 2).toNat : Nat) : Int)))) rfl rfl (by kernel_rfl) (by rfl) rfl rfl rfl rfl (by kernel_rfl) (by kernel_rfl) HD.out.1 (Nat.le_of_ble_eq_true rfl) (drPut_ho _ _) (fun Wn q1 => ⟨row_keep hS (q1.2.2 _ (by have := HD.out.2.2.2.2.2; omega)), ?_⟩)
      simp only [Act.put, List.setIfInBounds_toArray, List.set_cons_zero, List.set_cons_succ]
      have hSn := row_keep hS (q1.2.2 _ (by have := HD.out.2.2.2.2.2; omega))
      have HDn := Lib.hid (HD.out.put (y := (drSet_ho (drSet_ci (withT (kdP (z 4)) A m cL) (z (8 + 0))) ((((numZ (fun j => z (15 + j)) 0 2).toNat : Nat) : Int)))) q1)
      clear HD hS q1
      have HD := HDn
      have hS := hSn
      clear HDn hSn
      revert hS HD
      generalize Wn = Wq
      intro HD hS
      refine takeY (i := 16) (some 74) (v := .pointer (some ⟨P, 11, none⟩)) rfl rfl (by kernel_rfl) (by kernel_rfl) (by kernel_rfl) (fun _ _ _ h => h) (by rfl) (fun w' hS => by go_simp) hS ?_
      simp only [Act.put, List.setIfInBounds_toArray, List.set_cons_zero, List.set_cons_succ]
      refine takeSt (i := 17) 5 (.tmp 74) (.tmp 68) P 11 (.int .u8 (z (19 + 0))) #[.int .u8 (z (19 + 0))] (pdC (drSet_pr (drSet_ho (drSet_ci (withT (kdP (z 4)) A m cL) (z (8 + 0))) ((((numZ (fun j => z (15 + j)) 0 2).toNat : Nat) : Int))) (z (19 + 0)))) rfl rfl (by kernel_rfl) (by rfl) rfl rfl rfl rfl (by kernel_rfl) (by kernel_rfl) HD.out.1 (Nat.le_of_ble_eq_true rfl) (drPut_pr _ _) (fun Wn q1 => ⟨row_keep hS (q1.2.2 _ (by have := HD.out.2.2.2.2.2; omega)), ?_⟩)
      simp only [Act.put, List.setIfInBounds_toArray, List.set_cons_zero, List.set_cons_succ]
      have hSn := row_keep hS (q1.2.2 _ (by have := HD.out.2.2.2.2.2; omega))
      have HDn := Lib.hid (HD.out.put (y := (drSet_pr (drSet_ho (drSet_ci (withT (kdP (z 4)) A m cL) (z (8 + 0))) ((((numZ (fun j => z (15 + j)) 0 2).toNat : Nat) : Int))) (z (19 + 0)))) q1)
      clear HD hS q1
      have HD := HDn
      have hS := hSn
      clear HDn hSn
      revert hS HD
      generalize Wn = Wq
      intro HD hS
      refine takeY (i := 18) (some 75) (v := .pointer (some ⟨P, 12, none⟩)) rfl rfl (by kernel_rfl) (by kernel_rfl) (by kernel_rfl) (fun _ _ _ h => h) (by rfl) (fun w' hS => by go_simp) hS ?_
      simp only [Act.put, List.setIfInBounds_toArray, List.set_cons_zero, List.set_cons_succ]
      refine takeSt (i := 19) 25 (.tmp 75) (.tmp 71) P 12 (.agg (ndC (fun j => z (20 + j)))) (ndC (fun j => z (20 + j))) (pdC (drSet_la (drSet_pr (drSet_ho (drSet_ci (withT (kdP (z 4)) A m cL) (z (8 + 0))) ((((numZ (fun j => z (15 + j)) 0 2).toNat : Nat) : Int))) (z (19 + 0))) ((fun j => z (20 + j))))) rfl rfl (by kernel_rfl) (by rfl) rfl rfl rfl rfl info_node (nd_all _) HD.out.1 (Nat.le_of_ble_eq_true rfl) (drPut_la _ _) (fun Wn q1 => ⟨row_keep hS (q1.2.2 _ (by have := HD.out.2.2.2.2.2; omega)), ?_⟩)
      simp only [Act.put, List.setIfInBounds_toArray, List.set_cons_zero, List.set_cons_succ]
      have hSn := row_keep hS (q1.2.2 _ (by have := HD.out.2.2.2.2.2; omega))
      have HDn := Lib.hid (HD.out.put (y := (drSet_la (drSet_pr (drSet_ho (drSet_ci (withT (kdP (z 4)) A m cL) (z (8 + 0))) ((((numZ (fun j => z (15 + j)) 0 2).toNat : Nat) : Int))) (z (19 + 0))) ((fun j => z (20 + j))))) q1)
      clear HD hS q1
      have HD := HDn
      have hS := hSn
      clear HDn hSn
      revert hS HD
      generalize Wn = Wq
      intro HD hS
      clear hS
      refine wpAnyH_done (by kernel_rfl) ?_ _
      go_wp2_with fail
      go_meet
      case rel => exact Lib.hid (HD.out.eq (swD_1 z A m cL))
    · as_aux_lemma =>
      clear hk hq
      have f15 : (z 4 == 15) = false := by rw [hk4]; rfl
      have f16 : (z 4 == 16) = false := by rw [hk4]; rfl
      have f17 : (z 4 == 17) = false := by rw [hk4]; rfl
      have f18 : (z 4 == 18) = true := by rw [hk4]; rfl
      have f20 : (z 4 == 20) = false := by rw [hk4]; rfl
      have f24 : (z 4 == 24) = false := by rw [hk4]; rfl
      have f25 : (z 4 == 25) = false := by rw [hk4]; rfl
      clear hk4
      have hHn : 27 ≤ n := by have : hdN 2 = 27 := rfl; omega
      clear hhq hh h17
      go_wp2_with fail
      have HDd := Lib.hid (HD.out.below (bself wq).drew)
      refine wp_region_held_drew (S := fun w' => Row8 w' b off n z) (by kernel_rfl) HDd.out.2.2.1 (fun hS => ?_)
      generalize hWq : wq.drew = Wq at hS HDd ⊢
      clear hWq HD
      have HD := HDd
      clear HDd
      refine takeY (i := 0) (some 93) (v := .slice (some ⟨b, off, none⟩) n c) rfl rfl (by kernel_rfl) (by kernel_rfl) (by kernel_rfl) (fun _ _ _ h => h) (by rfl) (fun w' hS => by go_simp) hS ?_
      simp only [Act.put, List.setIfInBounds_toArray, List.set_cons_zero, List.set_cons_succ]
      refine takeY (i := 1) (some 94) (v := .slice (some ⟨b, off + 10, none⟩) (n - 10) (c - 10)) rfl rfl (by kernel_rfl) (by kernel_rfl) (by kernel_rfl) (fun _ _ _ h => h) (by rfl) (fun w' hS => by exact slice_in _ _ _ (.tmp 93) b off n c 10 10 rfl rfl rfl rfl (by omega) hc (by omega)) hS ?_
      simp only [Act.put, List.setIfInBounds_toArray, List.set_cons_zero, List.set_cons_succ]
      refine takeY (i := 3) (some 96) (v := .slice (some ⟨b, off, none⟩) n c) rfl rfl (by kernel_rfl) (by kernel_rfl) (by kernel_rfl) (fun _ _ _ h => h) (by rfl) (fun w' hS => by go_simp) hS ?_
      simp only [Act.put, List.setIfInBounds_toArray, List.set_cons_zero, List.set_cons_succ]
      refine takeY (i := 4) (some 97) (v := .slice (some ⟨b, off + 12, none⟩) (n - 12) (c - 12)) rfl rfl (by kernel_rfl) (by kernel_rfl) (by kernel_rfl) (fun _ _ _ h => h) (by rfl) (fun w' hS => by exact slice_in _ _ _ (.tmp 96) b off n c 12 12 rfl rfl rfl rfl (by omega) hc (by omega)) hS ?_
      simp only [Act.put, List.setIfInBounds_toArray, List.set_cons_zero, List.set_cons_succ]
      refine takeY (i := 6) (some 99) (v := .slice (some ⟨b, off, none⟩) n c) rfl rfl (by kernel_rfl) (by kernel_rfl) (by kernel_rfl) (fun _ _ _ h => h) (by rfl) (fun w' hS => by go_simp) hS ?_
      simp only [Act.put, List.setIfInBounds_toArray, List.set_cons_zero, List.set_cons_succ]
      refine takeY (i := 7) (some 100) (v := .slice (some ⟨b, off + 20, none⟩) 4 (c - 20)) rfl rfl (by kernel_rfl) (by kernel_rfl) (by kernel_rfl) (fun _ _ _ h => h) (by rfl) (fun w' hS => by (have h1 : (24 : Int) ≤ (c : Int) := (by omega); have h2 : ¬ c = 20 := (by omega); clear hS; go_simp; first | done | (rw [if_pos h1, if_neg h2]))) hS ?_
      simp only [Act.put, List.setIfInBounds_toArray, List.set_cons_zero, List.set_cons_succ]
      refine takeY (i := 10) (some 103) (v := .slice (some ⟨b, off, none⟩) n c) rfl rfl (by kernel_rfl) (by kernel_rfl) (by kernel_rfl) (fun _ _ _ h => h) (by rfl) (fun w' hS => by go_simp) hS ?_
      simp only [Act.put, List.setIfInBounds_toArray, List.set_cons_zero, List.set_cons_succ]
      refine takeY (i := 11) (some 104) (v := .pointer (some ⟨b, off + 26, none⟩)) rfl rfl (by kernel_rfl) (by kernel_rfl) (by kernel_rfl) (fun _ _ _ h => h) (by rfl) (fun w' hS => by (have hx : (26 : Int) < (n : Int) := (by omega); clear hS; go_simp)) hS ?_
      simp only [Act.put, List.setIfInBounds_toArray, List.set_cons_zero, List.set_cons_succ]
      refine takeY (i := 12) (some 105) (v := .int .u8 (z 26)) rfl rfl (by kernel_rfl) (by kernel_rfl) (by kernel_rfl) (fun _ _ _ h => h) (by rfl) (fun w' hS => by (have c9 : w'.cell? ⟨b, off + 26, none⟩ = some (.int .u8 (z 26))   := (hS.2.1 26 (by omega)); clear hS; go_simp)) hS ?_
      simp only [Act.put, List.setIfInBounds_toArray, List.set_cons_zero, List.set_cons_succ]
      refine takeC (i := 2) (some 95) 46 #[.slice (some ⟨b, off + 10, none⟩) (n - 10) (c - 10)] (.int .i64 (((numZ (fun j => z (10 + j)) 0 2).toNat : Nat) : Int)) (R := fun w' => Below Wq.heap.size Wq w') rfl rfl (by kernel_rfl) (by rfl) (by go_simp) (number_two b (off + 10) (n - 10) (c - 10) (fun j => z (10 + j)) Wq (hS.shift 10 _ (by omega)) (by omega)) (fun w' hb => row_keep hS (hb.block _ hS.1)) (fun Wn hb1 hS2 => ?_)
      simp only [Act.put, List.setIfInBounds_toArray, List.set_cons_zero, List.set_cons_succ]
      have HDn := Lib.hid (HD.out.below hb1)
      clear HD hS hb1
      have HD := HDn
      have hS := hS2
      clear HDn hS2
      revert hS HD
      generalize Wn = Wq
      intro HD hS
      refine takeY (i := 13) (some 106) (v := .pointer (some ⟨P, 19, none⟩)) rfl rfl (by kernel_rfl) (by kernel_rfl) (by kernel_rfl) (fun _ _ _ h => h) (by rfl) (fun w' hS => by go_simp) hS ?_
      simp only [Act.put, List.setIfInBounds_toArray, List.set_cons_zero, List.set_cons_succ]
      refine takeC (i := 5) (some 98) 48 #[.slice (some ⟨b, off + 12, none⟩) (n - 12) (c - 12)] (.agg (idC (fun j => z (12 + j)))) (R := fun w' => Below Wq.heap.size Wq w') rfl rfl (by kernel_rfl) (by rfl) (by go_simp) (idAt_any b (off + 12) (n - 12) (c - 12) (fun j => z (12 + j)) Wq (hS.shift 12 _ (by omega)) (by omega) (by omega)) (fun w' hb => row_keep hS (hb.block _ hS.1)) (fun Wn hb1 hS2 => ?_)
      simp only [Act.put, List.setIfInBounds_toArray, List.set_cons_zero, List.set_cons_succ]
      have HDn := Lib.hid (HD.out.below hb1)
      clear HD hS hb1
      have HD := HDn
      have hS := hS2
      clear HDn hS2
      revert hS HD
      generalize Wn = Wq
      intro HD hS
      refine takeC (i := 8) (some 101) 49 #[.slice (some ⟨b, off + 20, none⟩) 4 (c - 20)] (.int .u64 (((numZ (fun j => z (20 + j)) 0 4).toNat : Nat) : Int)) (R := fun w' => Below Wq.heap.size Wq w') rfl rfl (by kernel_rfl) (by rfl) (by go_simp) (number_four b (off + 20) (c - 20) (fun j => z (20 + j)) Wq (hS.shift 20 4 (by omega))) (fun w' hb => row_keep hS (hb.block _ hS.1)) (fun Wn hb1 hS2 => ?_)
      simp only [Act.put, List.setIfInBounds_toArray, List.set_cons_zero, List.set_cons_succ]
      have HDn := Lib.hid (HD.out.below hb1)
      clear HD hS hb1
      have HD := HDn
      have hS := hS2
      clear HDn hS2
      revert hS HD
      generalize Wn = Wq
      intro HD hS
      refine takeY (i := 9) (some 102) (v := .int .u32 (((numZ (fun j => z (20 + j)) 0 4).toNat : Nat) : Int)) rfl rfl (by kernel_rfl) (by kernel_rfl) (by kernel_rfl) (fun _ _ _ h => h) (by rfl) (fun w' hS => by (have hq := num4_le z 20 (fun j => hS.2.2 j); clear hS; go_simp; simp [IntKind.wrap, IntKind.signed, IntKind.bits]; omega)) hS ?_
      simp only [Act.put, List.setIfInBounds_toArray, List.set_cons_zero, List.set_cons_succ]
      refine takeSt (i := 14) 3 (.tmp 106) (.tmp 95) P 19 (.int .i64 ((((numZ (fun j => z (10 + j)) 0 2).toNat : Nat) : Int))) #[.int .i64 ((((numZ (fun j => z (10 + j)) 0 2).toNat : Nat) : Int))] (pdC (drSet_li (withT (kdP (z 4)) A m cL) ((((numZ (fun j => z (10 + j)) 0 2).toNat : Nat) : Int)))) rfl rfl (by kernel_rfl) (by rfl) rfl rfl rfl rfl (by kernel_rfl) (by kernel_rfl) HD.out.1 (Nat.le_of_ble_eq_true rfl) (drPut_li _ _) (fun Wn q1 => ⟨row_keep hS (q1.2.2 _ (by have := HD.out.2.2.2.2.2; omega)), ?_⟩)
      simp only [Act.put, List.setIfInBounds_toArray, List.set_cons_zero, List.set_cons_succ]
      have hSn := row_keep hS (q1.2.2 _ (by have := HD.out.2.2.2.2.2; omega))
      have HDn := Lib.hid (HD.out.put (y := (drSet_li (withT (kdP (z 4)) A m cL) ((((numZ (fun j => z (10 + j)) 0 2).toNat : Nat) : Int)))) q1)
      clear HD hS q1
      have HD := HDn
      have hS := hSn
      clear HDn hSn
      revert hS HD
      generalize Wn = Wq
      intro HD hS
      refine takeY (i := 15) (some 107) (v := .pointer (some ⟨P, 20, none⟩)) rfl rfl (by kernel_rfl) (by kernel_rfl) (by kernel_rfl) (fun _ _ _ h => h) (by rfl) (fun w' hS => by go_simp) hS ?_
      simp only [Act.put, List.setIfInBounds_toArray, List.set_cons_zero, List.set_cons_succ]
      refine takeSt (i := 16) 27 (.tmp 107) (.tmp 98) P 20 (.agg (idC (fun j => z (12 + j)))) (idC (fun j => z (12 + j))) (pdC (drSet_id (drSet_li (withT (kdP (z 4)) A m cL) ((((numZ (fun j => z (10 + j)) 0 2).toNat : Nat) : Int))) ((fun j => z (12 + j))))) rfl rfl (by kernel_rfl) (by rfl) rfl rfl rfl rfl info_id (id_all _) HD.out.1 (Nat.le_of_ble_eq_true rfl) (drPut_id _ _) (fun Wn q1 => ⟨row_keep hS (q1.2.2 _ (by have := HD.out.2.2.2.2.2; omega)), ?_⟩)
      simp only [Act.put, List.setIfInBounds_toArray, List.set_cons_zero, List.set_cons_succ]
      have hSn := row_keep hS (q1.2.2 _ (by have := HD.out.2.2.2.2.2; omega))
      have HDn := Lib.hid (HD.out.put (y := (drSet_id (drSet_li (withT (kdP (z 4)) A m cL) ((((numZ (fun j => z (10 + j)) 0 2).toNat : Nat) : Int))) ((fun j => z (12 + j))))) q1)
      clear HD hS q1
      have HD := HDn
      have hS := hSn
      clear HDn hSn
      revert hS HD
      generalize Wn = Wq
      intro HD hS
      refine takeY (i := 17) (some 108) (v := .pointer (some ⟨P, 28, none⟩)) rfl rfl (by kernel_rfl) (by kernel_rfl) (by kernel_rfl) (fun _ _ _ h => h) (by rfl) (fun w' hS => by go_simp) hS ?_
      simp only [Act.put, List.setIfInBounds_toArray, List.set_cons_zero, List.set_cons_succ]
      refine takeSt (i := 18) 28 (.tmp 108) (.tmp 102) P 28 (.int .u32 (((numZ (fun j => z (20 + j)) 0 4).toNat : Nat) : Int)) #[.int .u32 (((numZ (fun j => z (20 + j)) 0 4).toNat : Nat) : Int)] (pdC (drSet_sq (drSet_id (drSet_li (withT (kdP (z 4)) A m cL) ((((numZ (fun j => z (10 + j)) 0 2).toNat : Nat) : Int))) ((fun j => z (12 + j)))) ((numZ (fun j => z (20 + j)) 0 4).toNat))) rfl rfl (by kernel_rfl) (by rfl) rfl rfl rfl rfl (by kernel_rfl) (by kernel_rfl) HD.out.1 (Nat.le_of_ble_eq_true rfl) (drPut_sq _ _) (fun Wn q1 => ⟨row_keep hS (q1.2.2 _ (by have := HD.out.2.2.2.2.2; omega)), ?_⟩)
      simp only [Act.put, List.setIfInBounds_toArray, List.set_cons_zero, List.set_cons_succ]
      have hSn := row_keep hS (q1.2.2 _ (by have := HD.out.2.2.2.2.2; omega))
      have HDn := Lib.hid (HD.out.put (y := (drSet_sq (drSet_id (drSet_li (withT (kdP (z 4)) A m cL) ((((numZ (fun j => z (10 + j)) 0 2).toNat : Nat) : Int))) ((fun j => z (12 + j)))) ((numZ (fun j => z (20 + j)) 0 4).toNat))) q1)
      clear HD hS q1
      have HD := HDn
      have hS := hSn
      clear HDn hSn
      revert hS HD
      generalize Wn = Wq
      intro HD hS
      refine takeY (i := 19) (some 109) (v := .pointer (some ⟨P, 29, none⟩)) rfl rfl (by kernel_rfl) (by kernel_rfl) (by kernel_rfl) (fun _ _ _ h => h) (by rfl) (fun w' hS => by go_simp) hS ?_
      simp only [Act.put, List.setIfInBounds_toArray, List.set_cons_zero, List.set_cons_succ]
      refine takeSt (i := 20) 5 (.tmp 109) (.tmp 105) P 29 (.int .u8 (z (26 + 0))) #[.int .u8 (z (26 + 0))] (pdC (drSet_bi (drSet_sq (drSet_id (drSet_li (withT (kdP (z 4)) A m cL) ((((numZ (fun j => z (10 + j)) 0 2).toNat : Nat) : Int))) ((fun j => z (12 + j)))) ((numZ (fun j => z (20 + j)) 0 4).toNat)) (z (26 + 0)))) rfl rfl (by kernel_rfl) (by rfl) rfl rfl rfl rfl (by kernel_rfl) (by kernel_rfl) HD.out.1 (Nat.le_of_ble_eq_true rfl) (drPut_bi _ _) (fun Wn q1 => ⟨row_keep hS (q1.2.2 _ (by have := HD.out.2.2.2.2.2; omega)), ?_⟩)
      simp only [Act.put, List.setIfInBounds_toArray, List.set_cons_zero, List.set_cons_succ]
      have hSn := row_keep hS (q1.2.2 _ (by have := HD.out.2.2.2.2.2; omega))
      have HDn := Lib.hid (HD.out.put (y := (drSet_bi (drSet_sq (drSet_id (drSet_li (withT (kdP (z 4)) A m cL) ((((numZ (fun j => z (10 + j)) 0 2).toNat : Nat) : Int))) ((fun j => z (12 + j)))) ((numZ (fun j => z (20 + j)) 0 4).toNat)) (z (26 + 0)))) q1)
      clear HD hS q1
      have HD := HDn
      have hS := hSn
      clear HDn hSn
      revert hS HD
      generalize Wn = Wq
      intro HD hS
      clear hS
      refine wpAnyH_done (by kernel_rfl) ?_ _
      go_wp2_with fail
      go_meet
      case rel => exact Lib.hid (HD.out.eq (swD_2 z A m cL))
    · as_aux_lemma =>
      clear hk hq
      have f15 : (z 4 == 15) = false := by rw [hk4]; rfl
      have f16 : (z 4 == 16) = false := by rw [hk4]; rfl
      have f17 : (z 4 == 17) = false := by rw [hk4]; rfl
      have f18 : (z 4 == 18) = false := by rw [hk4]; rfl
      have f20 : (z 4 == 20) = true := by rw [hk4]; rfl
      have f24 : (z 4 == 24) = false := by rw [hk4]; rfl
      have f25 : (z 4 == 25) = false := by rw [hk4]; rfl
      clear hk4
      have hHn : 27 ≤ n := by have : hdN 2 = 27 := rfl; omega
      clear hhq hh h17
      go_wp2_with fail
      have HDd := Lib.hid (HD.out.below (bself wq).drew)
      refine wp_region_held_drew (S := fun w' => Row8 w' b off n z) (by kernel_rfl) HDd.out.2.2.1 (fun hS => ?_)
      generalize hWq : wq.drew = Wq at hS HDd ⊢
      clear hWq HD
      have HD := HDd
      clear HDd
      refine takeY (i := 0) (some 93) (v := .slice (some ⟨b, off, none⟩) n c) rfl rfl (by kernel_rfl) (by kernel_rfl) (by kernel_rfl) (fun _ _ _ h => h) (by rfl) (fun w' hS => by go_simp) hS ?_
      simp only [Act.put, List.setIfInBounds_toArray, List.set_cons_zero, List.set_cons_succ]
      refine takeY (i := 1) (some 94) (v := .slice (some ⟨b, off + 10, none⟩) (n - 10) (c - 10)) rfl rfl (by kernel_rfl) (by kernel_rfl) (by kernel_rfl) (fun _ _ _ h => h) (by rfl) (fun w' hS => by exact slice_in _ _ _ (.tmp 93) b off n c 10 10 rfl rfl rfl rfl (by omega) hc (by omega)) hS ?_
      simp only [Act.put, List.setIfInBounds_toArray, List.set_cons_zero, List.set_cons_succ]
      refine takeY (i := 3) (some 96) (v := .slice (some ⟨b, off, none⟩) n c) rfl rfl (by kernel_rfl) (by kernel_rfl) (by kernel_rfl) (fun _ _ _ h => h) (by rfl) (fun w' hS => by go_simp) hS ?_
      simp only [Act.put, List.setIfInBounds_toArray, List.set_cons_zero, List.set_cons_succ]
      refine takeY (i := 4) (some 97) (v := .slice (some ⟨b, off + 12, none⟩) (n - 12) (c - 12)) rfl rfl (by kernel_rfl) (by kernel_rfl) (by kernel_rfl) (fun _ _ _ h => h) (by rfl) (fun w' hS => by exact slice_in _ _ _ (.tmp 96) b off n c 12 12 rfl rfl rfl rfl (by omega) hc (by omega)) hS ?_
      simp only [Act.put, List.setIfInBounds_toArray, List.set_cons_zero, List.set_cons_succ]
      refine takeY (i := 6) (some 99) (v := .slice (some ⟨b, off, none⟩) n c) rfl rfl (by kernel_rfl) (by kernel_rfl) (by kernel_rfl) (fun _ _ _ h => h) (by rfl) (fun w' hS => by go_simp) hS ?_
      simp only [Act.put, List.setIfInBounds_toArray, List.set_cons_zero, List.set_cons_succ]
      refine takeY (i := 7) (some 100) (v := .slice (some ⟨b, off + 20, none⟩) 4 (c - 20)) rfl rfl (by kernel_rfl) (by kernel_rfl) (by kernel_rfl) (fun _ _ _ h => h) (by rfl) (fun w' hS => by (have h1 : (24 : Int) ≤ (c : Int) := (by omega); have h2 : ¬ c = 20 := (by omega); clear hS; go_simp; first | done | (rw [if_pos h1, if_neg h2]))) hS ?_
      simp only [Act.put, List.setIfInBounds_toArray, List.set_cons_zero, List.set_cons_succ]
      refine takeY (i := 10) (some 103) (v := .slice (some ⟨b, off, none⟩) n c) rfl rfl (by kernel_rfl) (by kernel_rfl) (by kernel_rfl) (fun _ _ _ h => h) (by rfl) (fun w' hS => by go_simp) hS ?_
      simp only [Act.put, List.setIfInBounds_toArray, List.set_cons_zero, List.set_cons_succ]
      refine takeY (i := 11) (some 104) (v := .pointer (some ⟨b, off + 26, none⟩)) rfl rfl (by kernel_rfl) (by kernel_rfl) (by kernel_rfl) (fun _ _ _ h => h) (by rfl) (fun w' hS => by (have hx : (26 : Int) < (n : Int) := (by omega); clear hS; go_simp)) hS ?_
      simp only [Act.put, List.setIfInBounds_toArray, List.set_cons_zero, List.set_cons_succ]
      refine takeY (i := 12) (some 105) (v := .int .u8 (z 26)) rfl rfl (by kernel_rfl) (by kernel_rfl) (by kernel_rfl) (fun _ _ _ h => h) (by rfl) (fun w' hS => by (have c9 : w'.cell? ⟨b, off + 26, none⟩ = some (.int .u8 (z 26))   := (hS.2.1 26 (by omega)); clear hS; go_simp)) hS ?_
      simp only [Act.put, List.setIfInBounds_toArray, List.set_cons_zero, List.set_cons_succ]
      refine takeC (i := 2) (some 95) 46 #[.slice (some ⟨b, off + 10, none⟩) (n - 10) (c - 10)] (.int .i64 (((numZ (fun j => z (10 + j)) 0 2).toNat : Nat) : Int)) (R := fun w' => Below Wq.heap.size Wq w') rfl rfl (by kernel_rfl) (by rfl) (by go_simp) (number_two b (off + 10) (n - 10) (c - 10) (fun j => z (10 + j)) Wq (hS.shift 10 _ (by omega)) (by omega)) (fun w' hb => row_keep hS (hb.block _ hS.1)) (fun Wn hb1 hS2 => ?_)
      simp only [Act.put, List.setIfInBounds_toArray, List.set_cons_zero, List.set_cons_succ]
      have HDn := Lib.hid (HD.out.below hb1)
      clear HD hS hb1
      have HD := HDn
      have hS := hS2
      clear HDn hS2
      revert hS HD
      generalize Wn = Wq
      intro HD hS
      refine takeY (i := 13) (some 106) (v := .pointer (some ⟨P, 19, none⟩)) rfl rfl (by kernel_rfl) (by kernel_rfl) (by kernel_rfl) (fun _ _ _ h => h) (by rfl) (fun w' hS => by go_simp) hS ?_
      simp only [Act.put, List.setIfInBounds_toArray, List.set_cons_zero, List.set_cons_succ]
      refine takeC (i := 5) (some 98) 48 #[.slice (some ⟨b, off + 12, none⟩) (n - 12) (c - 12)] (.agg (idC (fun j => z (12 + j)))) (R := fun w' => Below Wq.heap.size Wq w') rfl rfl (by kernel_rfl) (by rfl) (by go_simp) (idAt_any b (off + 12) (n - 12) (c - 12) (fun j => z (12 + j)) Wq (hS.shift 12 _ (by omega)) (by omega) (by omega)) (fun w' hb => row_keep hS (hb.block _ hS.1)) (fun Wn hb1 hS2 => ?_)
      simp only [Act.put, List.setIfInBounds_toArray, List.set_cons_zero, List.set_cons_succ]
      have HDn := Lib.hid (HD.out.below hb1)
      clear HD hS hb1
      have HD := HDn
      have hS := hS2
      clear HDn hS2
      revert hS HD
      generalize Wn = Wq
      intro HD hS
      refine takeC (i := 8) (some 101) 49 #[.slice (some ⟨b, off + 20, none⟩) 4 (c - 20)] (.int .u64 (((numZ (fun j => z (20 + j)) 0 4).toNat : Nat) : Int)) (R := fun w' => Below Wq.heap.size Wq w') rfl rfl (by kernel_rfl) (by rfl) (by go_simp) (number_four b (off + 20) (c - 20) (fun j => z (20 + j)) Wq (hS.shift 20 4 (by omega))) (fun w' hb => row_keep hS (hb.block _ hS.1)) (fun Wn hb1 hS2 => ?_)
      simp only [Act.put, List.setIfInBounds_toArray, List.set_cons_zero, List.set_cons_succ]
      have HDn := Lib.hid (HD.out.below hb1)
      clear HD hS hb1
      have HD := HDn
      have hS := hS2
      clear HDn hS2
      revert hS HD
      generalize Wn = Wq
      intro HD hS
      refine takeY (i := 9) (some 102) (v := .int .u32 (((numZ (fun j => z (20 + j)) 0 4).toNat : Nat) : Int)) rfl rfl (by kernel_rfl) (by kernel_rfl) (by kernel_rfl) (fun _ _ _ h => h) (by rfl) (fun w' hS => by (have hq := num4_le z 20 (fun j => hS.2.2 j); clear hS; go_simp; simp [IntKind.wrap, IntKind.signed, IntKind.bits]; omega)) hS ?_
      simp only [Act.put, List.setIfInBounds_toArray, List.set_cons_zero, List.set_cons_succ]
      refine takeSt (i := 14) 3 (.tmp 106) (.tmp 95) P 19 (.int .i64 ((((numZ (fun j => z (10 + j)) 0 2).toNat : Nat) : Int))) #[.int .i64 ((((numZ (fun j => z (10 + j)) 0 2).toNat : Nat) : Int))] (pdC (drSet_li (withT (kdP (z 4)) A m cL) ((((numZ (fun j => z (10 + j)) 0 2).toNat : Nat) : Int)))) rfl rfl (by kernel_rfl) (by rfl) rfl rfl rfl rfl (by kernel_rfl) (by kernel_rfl) HD.out.1 (Nat.le_of_ble_eq_true rfl) (drPut_li _ _) (fun Wn q1 => ⟨row_keep hS (q1.2.2 _ (by have := HD.out.2.2.2.2.2; omega)), ?_⟩)
      simp only [Act.put, List.setIfInBounds_toArray, List.set_cons_zero, List.set_cons_succ]
      have hSn := row_keep hS (q1.2.2 _ (by have := HD.out.2.2.2.2.2; omega))
      have HDn := Lib.hid (HD.out.put (y := (drSet_li (withT (kdP (z 4)) A m cL) ((((numZ (fun j => z (10 + j)) 0 2).toNat : Nat) : Int)))) q1)
      clear HD hS q1
      have HD := HDn
      have hS := hSn
      clear HDn hSn
      revert hS HD
      generalize Wn = Wq
      intro HD hS
      refine takeY (i := 15) (some 107) (v := .pointer (some ⟨P, 20, none⟩)) rfl rfl (by kernel_rfl) (by kernel_rfl) (by kernel_rfl) (fun _ _ _ h => h) (by rfl) (fun w' hS => by go_simp) hS ?_
      simp only [Act.put, List.setIfInBounds_toArray, List.set_cons_zero, List.set_cons_succ]
      refine takeSt (i := 16) 27 (.tmp 107) (.tmp 98) P 20 (.agg (idC (fun j => z (12 + j)))) (idC (fun j => z (12 + j))) (pdC (drSet_id (drSet_li (withT (kdP (z 4)) A m cL) ((((numZ (fun j => z (10 + j)) 0 2).toNat : Nat) : Int))) ((fun j => z (12 + j))))) rfl rfl (by kernel_rfl) (by rfl) rfl rfl rfl rfl info_id (id_all _) HD.out.1 (Nat.le_of_ble_eq_true rfl) (drPut_id _ _) (fun Wn q1 => ⟨row_keep hS (q1.2.2 _ (by have := HD.out.2.2.2.2.2; omega)), ?_⟩)
      simp only [Act.put, List.setIfInBounds_toArray, List.set_cons_zero, List.set_cons_succ]
      have hSn := row_keep hS (q1.2.2 _ (by have := HD.out.2.2.2.2.2; omega))
      have HDn := Lib.hid (HD.out.put (y := (drSet_id (drSet_li (withT (kdP (z 4)) A m cL) ((((numZ (fun j => z (10 + j)) 0 2).toNat : Nat) : Int))) ((fun j => z (12 + j))))) q1)
      clear HD hS q1
      have HD := HDn
      have hS := hSn
      clear HDn hSn
      revert hS HD
      generalize Wn = Wq
      intro HD hS
      refine takeY (i := 17) (some 108) (v := .pointer (some ⟨P, 28, none⟩)) rfl rfl (by kernel_rfl) (by kernel_rfl) (by kernel_rfl) (fun _ _ _ h => h) (by rfl) (fun w' hS => by go_simp) hS ?_
      simp only [Act.put, List.setIfInBounds_toArray, List.set_cons_zero, List.set_cons_succ]
      refine takeSt (i := 18) 28 (.tmp 108) (.tmp 102) P 28 (.int .u32 (((numZ (fun j => z (20 + j)) 0 4).toNat : Nat) : Int)) #[.int .u32 (((numZ (fun j => z (20 + j)) 0 4).toNat : Nat) : Int)] (pdC (drSet_sq (drSet_id (drSet_li (withT (kdP (z 4)) A m cL) ((((numZ (fun j => z (10 + j)) 0 2).toNat : Nat) : Int))) ((fun j => z (12 + j)))) ((numZ (fun j => z (20 + j)) 0 4).toNat))) rfl rfl (by kernel_rfl) (by rfl) rfl rfl rfl rfl (by kernel_rfl) (by kernel_rfl) HD.out.1 (Nat.le_of_ble_eq_true rfl) (drPut_sq _ _) (fun Wn q1 => ⟨row_keep hS (q1.2.2 _ (by have := HD.out.2.2.2.2.2; omega)), ?_⟩)
      simp only [Act.put, List.setIfInBounds_toArray, List.set_cons_zero, List.set_cons_succ]
      have hSn := row_keep hS (q1.2.2 _ (by have := HD.out.2.2.2.2.2; omega))
      have HDn := Lib.hid (HD.out.put (y := (drSet_sq (drSet_id (drSet_li (withT (kdP (z 4)) A m cL) ((((numZ (fun j => z (10 + j)) 0 2).toNat : Nat) : Int))) ((fun j => z (12 + j)))) ((numZ (fun j => z (20 + j)) 0 4).toNat))) q1)
      clear HD hS q1
      have HD := HDn
      have hS := hSn
      clear HDn hSn
      revert hS HD
      generalize Wn = Wq
      intro HD hS
      refine takeY (i := 19) (some 109) (v := .pointer (some ⟨P, 29, none⟩)) rfl rfl (by kernel_rfl) (by kernel_rfl) (by kernel_rfl) (fun _ _ _ h => h) (by rfl) (fun w' hS => by go_simp) hS ?_
      simp only [Act.put, List.setIfInBounds_toArray, List.set_cons_zero, List.set_cons_succ]
      refine takeSt (i := 20) 5 (.tmp 109) (.tmp 105) P 29 (.int .u8 (z (26 + 0))) #[.int .u8 (z (26 + 0))] (pdC (drSet_bi (drSet_sq (drSet_id (drSet_li (withT (kdP (z 4)) A m cL) ((((numZ (fun j => z (10 + j)) 0 2).toNat : Nat) : Int))) ((fun j => z (12 + j)))) ((numZ (fun j => z (20 + j)) 0 4).toNat)) (z (26 + 0)))) rfl rfl (by kernel_rfl) (by rfl) rfl rfl rfl rfl (by kernel_rfl) (by kernel_rfl) HD.out.1 (Nat.le_of_ble_eq_true rfl) (drPut_bi _ _) (fun Wn q1 => ⟨row_keep hS (q1.2.2 _ (by have := HD.out.2.2.2.2.2; omega)), ?_⟩)
      simp only [Act.put, List.setIfInBounds_toArray, List.set_cons_zero, List.set_cons_succ]
      have hSn := row_keep hS (q1.2.2 _ (by have := HD.out.2.2.2.2.2; omega))
      have HDn := Lib.hid (HD.out.put (y := (drSet_bi (drSet_sq (drSet_id (drSet_li (withT (kdP (z 4)) A m cL) ((((numZ (fun j => z (10 + j)) 0 2).toNat : Nat) : Int))) ((fun j => z (12 + j)))) ((numZ (fun j => z (20 + j)) 0 4).toNat)) (z (26 + 0)))) q1)
      clear HD hS q1
      have HD := HDn
      have hS := hSn
      clear HDn hSn
      revert hS HD
      generalize Wn = Wq
      intro HD hS
      clear hS
      refine wpAnyH_done (by kernel_rfl) ?_ _
      go_wp2_with fail
      go_meet
      case rel => exact Lib.hid (HD.out.eq (swD_2 z A m cL))
    · as_aux_lemma =>
      clear hk hq
      have f15 : (z 4 == 15) = false := by rw [hk4]; rfl
      have f16 : (z 4 == 16) = false := by rw [hk4]; rfl
      have f17 : (z 4 == 17) = false := by rw [hk4]; rfl
      have f18 : (z 4 == 18) = false := by rw [hk4]; rfl
      have f20 : (z 4 == 20) = false := by rw [hk4]; rfl
      have f24 : (z 4 == 24) = true := by rw [hk4]; rfl
      have f25 : (z 4 == 25) = false := by rw [hk4]; rfl
      clear hk4
      have hHn : 33 ≤ n := by have : hdN 3 = 33 := rfl; omega
      clear hhq hh h17
      go_wp2_with fail
      have HDd := Lib.hid (HD.out.below (bself wq).drew)
      refine wp_region_held_drew (S := fun w' => Row8 w' b off n z) (by kernel_rfl) HDd.out.2.2.1 (fun hS => ?_)
      generalize hWq : wq.drew = Wq at hS HDd ⊢
      clear hWq HD
      have HD := HDd
      clear HDd
      refine takeY (i := 0) (some 113) (v := .slice (some ⟨b, off, none⟩) n c) rfl rfl (by kernel_rfl) (by kernel_rfl) (by kernel_rfl) (fun _ _ _ h => h) (by rfl) (fun w' hS => by go_simp) hS ?_
      simp only [Act.put, List.setIfInBounds_toArray, List.set_cons_zero, List.set_cons_succ]
      refine takeY (i := 1) (some 114) (v := .slice (some ⟨b, off + 10, none⟩) (n - 10) (c - 10)) rfl rfl (by kernel_rfl) (by kernel_rfl) (by kernel_rfl) (fun _ _ _ h => h) (by rfl) (fun w' hS => by exact slice_in _ _ _ (.tmp 113) b off n c 10 10 rfl rfl rfl rfl (by omega) hc (by omega)) hS ?_
      simp only [Act.put, List.setIfInBounds_toArray, List.set_cons_zero, List.set_cons_succ]
      refine takeY (i := 3) (some 116) (v := .slice (some ⟨b, off, none⟩) n c) rfl rfl (by kernel_rfl) (by kernel_rfl) (by kernel_rfl) (fun _ _ _ h => h) (by rfl) (fun w' hS => by go_simp) hS ?_
      simp only [Act.put, List.setIfInBounds_toArray, List.set_cons_zero, List.set_cons_succ]
      refine takeY (i := 4) (some 117) (v := .slice (some ⟨b, off + 17, none⟩) (n - 17) (c - 17)) rfl rfl (by kernel_rfl) (by kernel_rfl) (by kernel_rfl) (fun _ _ _ h => h) (by rfl) (fun w' hS => by exact slice_in _ _ _ (.tmp 116) b off n c 17 17 rfl rfl rfl rfl (by omega) hc (by omega)) hS ?_
      simp only [Act.put, List.setIfInBounds_toArray, List.set_cons_zero, List.set_cons_succ]
      refine takeY (i := 6) (some 119) (v := .slice (some ⟨b, off, none⟩) n c) rfl rfl (by kernel_rfl) (by kernel_rfl) (by kernel_rfl) (fun _ _ _ h => h) (by rfl) (fun w' hS => by go_simp) hS ?_
      simp only [Act.put, List.setIfInBounds_toArray, List.set_cons_zero, List.set_cons_succ]
      refine takeY (i := 7) (some 120) (v := .slice (some ⟨b, off + 25, none⟩) (n - 25) (c - 25)) rfl rfl (by kernel_rfl) (by kernel_rfl) (by kernel_rfl) (fun _ _ _ h => h) (by rfl) (fun w' hS => by exact slice_in _ _ _ (.tmp 119) b off n c 25 25 rfl rfl rfl rfl (by omega) hc (by omega)) hS ?_
      simp only [Act.put, List.setIfInBounds_toArray, List.set_cons_zero, List.set_cons_succ]
      refine takeC (i := 2) (some 115) 47 #[.slice (some ⟨b, off + 10, none⟩) (n - 10) (c - 10)] (.agg (ndC (fun j => z (10 + j)))) (R := fun w' => Below Wq.heap.size Wq w') rfl rfl (by kernel_rfl) (by rfl) (by go_simp) (nodeAt_any b (off + 10) (n - 10) (c - 10) (fun j => z (10 + j)) Wq (hS.shift 10 _ (by omega)) (by omega) (by omega)) (fun w' hb => row_keep hS (hb.block _ hS.1)) (fun Wn hb1 hS2 => ?_)
      simp only [Act.put, List.setIfInBounds_toArray, List.set_cons_zero, List.set_cons_succ]
      have HDn := Lib.hid (HD.out.below hb1)
      clear HD hS hb1
      have HD := HDn
      have hS := hS2
      clear HDn hS2
      revert hS HD
      generalize Wn = Wq
      intro HD hS
      refine takeY (i := 9) (some 122) (v := .pointer (some ⟨P, 2, none⟩)) rfl rfl (by kernel_rfl) (by kernel_rfl) (by kernel_rfl) (fun _ _ _ h => h) (by rfl) (fun w' hS => by go_simp) hS ?_
      simp only [Act.put, List.setIfInBounds_toArray, List.set_cons_zero, List.set_cons_succ]
      refine takeC (i := 5) (some 118) 48 #[.slice (some ⟨b, off + 17, none⟩) (n - 17) (c - 17)] (.agg (idC (fun j => z (17 + j)))) (R := fun w' => Below Wq.heap.size Wq w') rfl rfl (by kernel_rfl) (by rfl) (by go_simp) (idAt_any b (off + 17) (n - 17) (c - 17) (fun j => z (17 + j)) Wq (hS.shift 17 _ (by omega)) (by omega) (by omega)) (fun w' hb => row_keep hS (hb.block _ hS.1)) (fun Wn hb1 hS2 => ?_)
      simp only [Act.put, List.setIfInBounds_toArray, List.set_cons_zero, List.set_cons_succ]
      have HDn := Lib.hid (HD.out.below hb1)
      clear HD hS hb1
      have HD := HDn
      have hS := hS2
      clear HDn hS2
      revert hS HD
      generalize Wn = Wq
      intro HD hS
      refine takeC (i := 8) (some 121) 48 #[.slice (some ⟨b, off + 25, none⟩) (n - 25) (c - 25)] (.agg (idC (fun j => z (25 + j)))) (R := fun w' => Below Wq.heap.size Wq w') rfl rfl (by kernel_rfl) (by rfl) (by go_simp) (idAt_any b (off + 25) (n - 25) (c - 25) (fun j => z (25 + j)) Wq (hS.shift 25 _ (by omega)) (by omega) (by omega)) (fun w' hb => row_keep hS (hb.block _ hS.1)) (fun Wn hb1 hS2 => ?_)
      simp only [Act.put, List.setIfInBounds_toArray, List.set_cons_zero, List.set_cons_succ]
      have HDn := Lib.hid (HD.out.below hb1)
      clear HD hS hb1
      have HD := HDn
      have hS := hS2
      clear HDn hS2
      revert hS HD
      generalize Wn = Wq
      intro HD hS
      refine takeSt (i := 10) 25 (.tmp 122) (.tmp 115) P 2 (.agg (ndC (fun j => z (10 + j)))) (ndC (fun j => z (10 + j))) (pdC (drSet_so (withT (kdP (z 4)) A m cL) ((fun j => z (10 + j))))) rfl rfl (by kernel_rfl) (by rfl) rfl rfl rfl rfl info_node (nd_all _) HD.out.1 (Nat.le_of_ble_eq_true rfl) (drPut_so _ _) (fun Wn q1 => ⟨row_keep hS (q1.2.2 _ (by have := HD.out.2.2.2.2.2; omega)), ?_⟩)
      simp only [Act.put, List.setIfInBounds_toArray, List.set_cons_zero, List.set_cons_succ]
      have hSn := row_keep hS (q1.2.2 _ (by have := HD.out.2.2.2.2.2; omega))
      have HDn := Lib.hid (HD.out.put (y := (drSet_so (withT (kdP (z 4)) A m cL) ((fun j => z (10 + j))))) q1)
      clear HD hS q1
      have HD := HDn
      have hS := hSn
      clear HDn hSn
      revert hS HD
      generalize Wn = Wq
      intro HD hS
      refine takeY (i := 11) (some 123) (v := .pointer (some ⟨P, 30, none⟩)) rfl rfl (by kernel_rfl) (by kernel_rfl) (by kernel_rfl) (fun _ _ _ h => h) (by rfl) (fun w' hS => by go_simp) hS ?_
      simp only [Act.put, List.setIfInBounds_toArray, List.set_cons_zero, List.set_cons_succ]
      refine takeSt (i := 12) 27 (.tmp 123) (.tmp 118) P 30 (.agg (idC (fun j => z (17 + j)))) (idC (fun j => z (17 + j))) (pdC (drSet_st (drSet_so (withT (kdP (z 4)) A m cL) ((fun j => z (10 + j)))) ((fun j => z (17 + j))))) rfl rfl (by kernel_rfl) (by rfl) rfl rfl rfl rfl info_id (id_all _) HD.out.1 (Nat.le_of_ble_eq_true rfl) (drPut_st _ _) (fun Wn q1 => ⟨row_keep hS (q1.2.2 _ (by have := HD.out.2.2.2.2.2; omega)), ?_⟩)
      simp only [Act.put, List.setIfInBounds_toArray, List.set_cons_zero, List.set_cons_succ]
      have hSn := row_keep hS (q1.2.2 _ (by have := HD.out.2.2.2.2.2; omega))
      have HDn := Lib.hid (HD.out.put (y := (drSet_st (drSet_so (withT (kdP (z 4)) A m cL) ((fun j => z (10 + j)))) ((fun j => z (17 + j))))) q1)
      clear HD hS q1
      have HD := HDn
      have hS := hSn
      clear HDn hSn
      revert hS HD
      generalize Wn = Wq
      intro HD hS
      refine takeY (i := 13) (some 124) (v := .pointer (some ⟨P, 38, none⟩)) rfl rfl (by kernel_rfl) (by kernel_rfl) (by kernel_rfl) (fun _ _ _ h => h) (by rfl) (fun w' hS => by go_simp) hS ?_
      simp only [Act.put, List.setIfInBounds_toArray, List.set_cons_zero, List.set_cons_succ]
      refine takeSt (i := 14) 27 (.tmp 124) (.tmp 121) P 38 (.agg (idC (fun j => z (25 + j)))) (idC (fun j => z (25 + j))) (pdC (drSet_en (drSet_st (drSet_so (withT (kdP (z 4)) A m cL) ((fun j => z (10 + j)))) ((fun j => z (17 + j)))) ((fun j => z (25 + j))))) rfl rfl (by kernel_rfl) (by rfl) rfl rfl rfl rfl info_id (id_all _) HD.out.1 (Nat.le_of_ble_eq_true rfl) (drPut_en _ _) (fun Wn q1 => ⟨row_keep hS (q1.2.2 _ (by have := HD.out.2.2.2.2.2; omega)), ?_⟩)
      simp only [Act.put, List.setIfInBounds_toArray, List.set_cons_zero, List.set_cons_succ]
      have hSn := row_keep hS (q1.2.2 _ (by have := HD.out.2.2.2.2.2; omega))
      have HDn := Lib.hid (HD.out.put (y := (drSet_en (drSet_st (drSet_so (withT (kdP (z 4)) A m cL) ((fun j => z (10 + j)))) ((fun j => z (17 + j)))) ((fun j => z (25 + j))))) q1)
      clear HD hS q1
      have HD := HDn
      have hS := hSn
      clear HDn hSn
      revert hS HD
      generalize Wn = Wq
      intro HD hS
      clear hS
      refine wpAnyH_done (by kernel_rfl) ?_ _
      go_wp2_with fail
      go_meet
      case rel => exact Lib.hid (HD.out.eq (swD_3 z A m cL))
    · as_aux_lemma =>
      clear hk hq
      have f15 : (z 4 == 15) = false := by rw [hk4]; rfl
      have f16 : (z 4 == 16) = false := by rw [hk4]; rfl
      have f17 : (z 4 == 17) = false := by rw [hk4]; rfl
      have f18 : (z 4 == 18) = false := by rw [hk4]; rfl
      have f20 : (z 4 == 20) = false := by rw [hk4]; rfl
      have f24 : (z 4 == 24) = false := by rw [hk4]; rfl
      have f25 : (z 4 == 25) = true := by rw [hk4]; rfl
      clear hk4
      have hHn : 33 ≤ n := by have : hdN 3 = 33 := rfl; omega
      clear hhq hh h17
      go_wp2_with fail
      have HDd := Lib.hid (HD.out.below (bself wq).drew)
      refine wp_region_held_drew (S := fun w' => Row8 w' b off n z) (by kernel_rfl) HDd.out.2.2.1 (fun hS => ?_)
      generalize hWq : wq.drew = Wq at hS HDd ⊢
      clear hWq HD
      have HD := HDd
      clear HDd
      refine takeY (i := 0) (some 113) (v := .slice (some ⟨b, off, none⟩) n c) rfl rfl (by kernel_rfl) (by kernel_rfl) (by kernel_rfl) (fun _ _ _ h => h) (by rfl) (fun w' hS => by go_simp) hS ?_
      simp only [Act.put, List.setIfInBounds_toArray, List.set_cons_zero, List.set_cons_succ]
      refine takeY (i := 1) (some 114) (v := .slice (some ⟨b, off + 10, none⟩) (n - 10) (c - 10)) rfl rfl (by kernel_rfl) (by kernel_rfl) (by kernel_rfl) (fun _ _ _ h => h) (by rfl) (fun w' hS => by exact slice_in _ _ _ (.tmp 113) b off n c 10 10 rfl rfl rfl rfl (by omega) hc (by omega)) hS ?_
      simp only [Act.put, List.setIfInBounds_toArray, List.set_cons_zero, List.set_cons_succ]
      refine takeY (i := 3) (some 116) (v := .slice (some ⟨b, off, none⟩) n c) rfl rfl (by kernel_rfl) (by kernel_rfl) (by kernel_rfl) (fun _ _ _ h => h) (by rfl) (fun w' hS => by go_simp) hS ?_
      simp only [Act.put, List.setIfInBounds_toArray, List.set_cons_zero, List.set_cons_succ]
      refine takeY (i := 4) (some 117) (v := .slice (some ⟨b, off + 17, none⟩) (n - 17) (c - 17)) rfl rfl (by kernel_rfl) (by kernel_rfl) (by kernel_rfl) (fun _ _ _ h => h) (by rfl) (fun w' hS => by exact slice_in _ _ _ (.tmp 116) b off n c 17 17 rfl rfl rfl rfl (by omega) hc (by omega)) hS ?_
      simp only [Act.put, List.setIfInBounds_toArray, List.set_cons_zero, List.set_cons_succ]
      refine takeY (i := 6) (some 119) (v := .slice (some ⟨b, off, none⟩) n c) rfl rfl (by kernel_rfl) (by kernel_rfl) (by kernel_rfl) (fun _ _ _ h => h) (by rfl) (fun w' hS => by go_simp) hS ?_
      simp only [Act.put, List.setIfInBounds_toArray, List.set_cons_zero, List.set_cons_succ]
      refine takeY (i := 7) (some 120) (v := .slice (some ⟨b, off + 25, none⟩) (n - 25) (c - 25)) rfl rfl (by kernel_rfl) (by kernel_rfl) (by kernel_rfl) (fun _ _ _ h => h) (by rfl) (fun w' hS => by exact slice_in _ _ _ (.tmp 119) b off n c 25 25 rfl rfl rfl rfl (by omega) hc (by omega)) hS ?_
      simp only [Act.put, List.setIfInBounds_toArray, List.set_cons_zero, List.set_cons_succ]
      refine takeC (i := 2) (some 115) 47 #[.slice (some ⟨b, off + 10, none⟩) (n - 10) (c - 10)] (.agg (ndC (fun j => z (10 + j)))) (R := fun w' => Below Wq.heap.size Wq w') rfl rfl (by kernel_rfl) (by rfl) (by go_simp) (nodeAt_any b (off + 10) (n - 10) (c - 10) (fun j => z (10 + j)) Wq (hS.shift 10 _ (by omega)) (by omega) (by omega)) (fun w' hb => row_keep hS (hb.block _ hS.1)) (fun Wn hb1 hS2 => ?_)
      simp only [Act.put, List.setIfInBounds_toArray, List.set_cons_zero, List.set_cons_succ]
      have HDn := Lib.hid (HD.out.below hb1)
      clear HD hS hb1
      have HD := HDn
      have hS := hS2
      clear HDn hS2
      revert hS HD
      generalize Wn = Wq
      intro HD hS
      refine takeY (i := 9) (some 122) (v := .pointer (some ⟨P, 2, none⟩)) rfl rfl (by kernel_rfl) (by kernel_rfl) (by kernel_rfl) (fun _ _ _ h => h) (by rfl) (fun w' hS => by go_simp) hS ?_
      simp only [Act.put, List.setIfInBounds_toArray, List.set_cons_zero, List.set_cons_succ]
      refine takeC (i := 5) (some 118) 48 #[.slice (some ⟨b, off + 17, none⟩) (n - 17) (c - 17)] (.agg (idC (fun j => z (17 + j)))) (R := fun w' => Below Wq.heap.size Wq w') rfl rfl (by kernel_rfl) (by rfl) (by go_simp) (idAt_any b (off + 17) (n - 17) (c - 17) (fun j => z (17 + j)) Wq (hS.shift 17 _ (by omega)) (by omega) (by omega)) (fun w' hb => row_keep hS (hb.block _ hS.1)) (fun Wn hb1 hS2 => ?_)
      simp only [Act.put, List.setIfInBounds_toArray, List.set_cons_zero, List.set_cons_succ]
      have HDn := Lib.hid (HD.out.below hb1)
      clear HD hS hb1
      have HD := HDn
      have hS := hS2
      clear HDn hS2
      revert hS HD
      generalize Wn = Wq
      intro HD hS
      refine takeC (i := 8) (some 121) 48 #[.slice (some ⟨b, off + 25, none⟩) (n - 25) (c - 25)] (.agg (idC (fun j => z (25 + j)))) (R := fun w' => Below Wq.heap.size Wq w') rfl rfl (by kernel_rfl) (by rfl) (by go_simp) (idAt_any b (off + 25) (n - 25) (c - 25) (fun j => z (25 + j)) Wq (hS.shift 25 _ (by omega)) (by omega) (by omega)) (fun w' hb => row_keep hS (hb.block _ hS.1)) (fun Wn hb1 hS2 => ?_)
      simp only [Act.put, List.setIfInBounds_toArray, List.set_cons_zero, List.set_cons_succ]
      have HDn := Lib.hid (HD.out.below hb1)
      clear HD hS hb1
      have HD := HDn
      have hS := hS2
      clear HDn hS2
      revert hS HD
      generalize Wn = Wq
      intro HD hS
      refine takeSt (i := 10) 25 (.tmp 122) (.tmp 115) P 2 (.agg (ndC (fun j => z (10 + j)))) (ndC (fun j => z (10 + j))) (pdC (drSet_so (withT (kdP (z 4)) A m cL) ((fun j => z (10 + j))))) rfl rfl (by kernel_rfl) (by rfl) rfl rfl rfl rfl info_node (nd_all _) HD.out.1 (Nat.le_of_ble_eq_true rfl) (drPut_so _ _) (fun Wn q1 => ⟨row_keep hS (q1.2.2 _ (by have := HD.out.2.2.2.2.2; omega)), ?_⟩)
      simp only [Act.put, List.setIfInBounds_toArray, List.set_cons_zero, List.set_cons_succ]
      have hSn := row_keep hS (q1.2.2 _ (by have := HD.out.2.2.2.2.2; omega))
      have HDn := Lib.hid (HD.out.put (y := (drSet_so (withT (kdP (z 4)) A m cL) ((fun j => z (10 + j))))) q1)
      clear HD hS q1
      have HD := HDn
      have hS := hSn
      clear HDn hSn
      revert hS HD
      generalize Wn = Wq
      intro HD hS
      refine takeY (i := 11) (some 123) (v := .pointer (some ⟨P, 30, none⟩)) rfl rfl (by kernel_rfl) (by kernel_rfl) (by kernel_rfl) (fun _ _ _ h => h) (by rfl) (fun w' hS => by go_simp) hS ?_
      simp only [Act.put, List.setIfInBounds_toArray, List.set_cons_zero, List.set_cons_succ]
      refine takeSt (i := 12) 27 (.tmp 123) (.tmp 118) P 30 (.agg (idC (fun j => z (17 + j)))) (idC (fun j => z (17 + j))) (pdC (drSet_st (drSet_so (withT (kdP (z 4)) A m cL) ((fun j => z (10 + j)))) ((fun j => z (17 + j))))) rfl rfl (by kernel_rfl) (by rfl) rfl rfl rfl rfl info_id (id_all _) HD.out.1 (Nat.le_of_ble_eq_true rfl) (drPut_st _ _) (fun Wn q1 => ⟨row_keep hS (q1.2.2 _ (by have := HD.out.2.2.2.2.2; omega)), ?_⟩)
      simp only [Act.put, List.setIfInBounds_toArray, List.set_cons_zero, List.set_cons_succ]
      have hSn := row_keep hS (q1.2.2 _ (by have := HD.out.2.2.2.2.2; omega))
      have HDn := Lib.hid (HD.out.put (y := (drSet_st (drSet_so (withT (kdP (z 4)) A m cL) ((fun j => z (10 + j)))) ((fun j => z (17 + j))))) q1)
      clear HD hS q1
      have HD := HDn
      have hS := hSn
      clear HDn hSn
      revert hS HD
      generalize Wn = Wq
      intro HD hS
      refine takeY (i := 13) (some 124) (v := .pointer (some ⟨P, 38, none⟩)) rfl rfl (by kernel_rfl) (by kernel_rfl) (by kernel_rfl) (fun _ _ _ h => h) (by rfl) (fun w' hS => by go_simp) hS ?_
      simp only [Act.put, List.setIfInBounds_toArray, List.set_cons_zero, List.set_cons_succ]
      refine takeSt (i := 14) 27 (.tmp 124) (.tmp 121) P 38 (.agg (idC (fun j => z (25 + j)))) (idC (fun j => z (25 + j))) (pdC (drSet_en (drSet_st (drSet_so (withT (kdP (z 4)) A m cL) ((fun j => z (10 + j)))) ((fun j => z (17 + j)))) ((fun j => z (25 + j))))) rfl rfl (by kernel_rfl) (by rfl) rfl rfl rfl rfl info_id (id_all _) HD.out.1 (Nat.le_of_ble_eq_true rfl) (drPut_en _ _) (fun Wn q1 => ⟨row_keep hS (q1.2.2 _ (by have := HD.out.2.2.2.2.2; omega)), ?_⟩)
      simp only [Act.put, List.setIfInBounds_toArray, List.set_cons_zero, List.set_cons_succ]
      have hSn := row_keep hS (q1.2.2 _ (by have := HD.out.2.2.2.2.2; omega))
      have HDn := Lib.hid (HD.out.put (y := (drSet_en (drSet_st (drSet_so (withT (kdP (z 4)) A m cL) ((fun j => z (10 + j)))) ((fun j => z (17 + j)))) ((fun j => z (25 + j))))) q1)
      clear HD hS q1
      have HD := HDn
      have hS := hSn
      clear HDn hSn
      revert hS HD
      generalize Wn = Wq
      intro HD hS
      clear hS
      refine wpAnyH_done (by kernel_rfl) ?_ _
      go_wp2_with fail
      go_meet
      case rel => exact Lib.hid (HD.out.eq (swD_3 z A m cL))
    · as_aux_lemma =>
      clear hk hq
      have f15 : (z 4 == 15) = false := by rw [hk4]; rfl
      have f16 : (z 4 == 16) = false := by rw [hk4]; rfl
      have f17 : (z 4 == 17) = false := by rw [hk4]; rfl
      have f18 : (z 4 == 18) = false := by rw [hk4]; rfl
      have f20 : (z 4 == 20) = false := by rw [hk4]; rfl
      have f24 : (z 4 == 24) = false := by rw [hk4]; rfl
      have f25 : (z 4 == 25) = false := by rw [hk4]; rfl
      clear hk4
      have hHn : 17 ≤ n := by have : hdN 4 = 17 := rfl; omega
      clear hhq hh h17
      skip
      have hRW := HD.out.2.2.1
      go_wp2_with (refine wpList_v (op := ⟨some 54, _, _, _, _, _⟩) rfl _ (slice_in _ _ _ (.tmp 53) b off n c 10 10 rfl rfl rfl rfl (by omega) hc (by omega)) ?_)
      refine (nodeAt_any b (off + 10) (n - 10) (c - 10) (fun j => z (10 + j)) wq (hRW.shift 10 _ (by omega)) (by omega) (by omega)).mono ?_
      rintro e w6 ⟨rfl, hb⟩
      have HD6 := Lib.hid (HD.out.below hb)
      clear HD hb hRW
      go_wp2_with (refine wpList_st rfl 25 (.tmp 56) (.tmp 55) rfl P 2 rfl (.agg (ndC (fun j => z (10 + j)))) (ndC (fun j => z (10 + j))) rfl rfl info_node (nd_all _) HD6.out.1 (Nat.le_of_ble_eq_true rfl) (C' := pdC (drSet_so (withT (kdP (z 4)) A m cL) (fun j => z (10 + j)))) (by kernel_rfl) ?_; intro w7 hst7; refine Hid.out ?_)
      refine Lib.hid ?_
      have HD := Lib.hid (HD6.out.put (y := (drSet_so (withT (kdP (z 4)) A m cL) (fun j => z (10 + j)))) hst7)
      clear hst7 HD6
      go_wp2_with fail
      go_meet
      case rel => exact Lib.hid (HD.out.eq (swD_4 z A m cL))
    · as_aux_lemma =>
      clear hk hq
      have f15 : (z 4 == 15) = false := by rw [hk4]; rfl
      have f16 : (z 4 == 16) = false := by rw [hk4]; rfl
      have f17 : (z 4 == 17) = false := by rw [hk4]; rfl
      have f18 : (z 4 == 18) = false := by rw [hk4]; rfl
      have f20 : (z 4 == 20) = false := by rw [hk4]; rfl
      have f24 : (z 4 == 24) = false := by rw [hk4]; rfl
      have f25 : (z 4 == 25) = false := by rw [hk4]; rfl
      clear hk4
      have hHn : 17 ≤ n := by have : hdN 4 = 17 := rfl; omega
      clear hhq hh h17
      skip
      have hRW := HD.out.2.2.1
      go_wp2_with (refine wpList_v (op := ⟨some 54, _, _, _, _, _⟩) rfl _ (slice_in _ _ _ (.tmp 53) b off n c 10 10 rfl rfl rfl rfl (by omega) hc (by omega)) ?_)
      refine (nodeAt_any b (off + 10) (n - 10) (c - 10) (fun j => z (10 + j)) wq (hRW.shift 10 _ (by omega)) (by omega) (by omega)).mono ?_
      rintro e w6 ⟨rfl, hb⟩
      have HD6 := Lib.hid (HD.out.below hb)
      clear HD hb hRW
      go_wp2_with (refine wpList_st rfl 25 (.tmp 56) (.tmp 55) rfl P 2 rfl (.agg (ndC (fun j => z (10 + j)))) (ndC (fun j => z (10 + j))) rfl rfl info_node (nd_all _) HD6.out.1 (Nat.le_of_ble_eq_true rfl) (C' := pdC (drSet_so (withT (kdP (z 4)) A m cL) (fun j => z (10 + j)))) (by kernel_rfl) ?_; intro w7 hst7; refine Hid.out ?_)
      refine Lib.hid ?_
      have HD := Lib.hid (HD6.out.put (y := (drSet_so (withT (kdP (z 4)) A m cL) (fun j => z (10 + j)))) hst7)
      clear hst7 HD6
      go_wp2_with fail
      go_meet
      case rel => exact Lib.hid (HD.out.eq (swD_4 z A m cL))
  case rest =>
  clear HD c0
  have HD := hcut
  clear hcut
  have c0 : wc.cell? ⟨P, 0, none⟩ = some (.int .u8 (z 4)) := (HD.out.1.cell 0).trans (by rw [pdC_0, swP_kd])
  have HHE := Lib.hid (hello_q (z 4) q HKQ.out.1 HKQ.out.2)
  obtain ⟨bh, hbh⟩ : ∃ bh, decide (q ≤ 1) = bh := ⟨_, rfl⟩
  rw [hbh] at HHE
  have HBH := Lib.hid hbh
  clear hbh
  go_wp2_with fail
  refine (HHE.out _).mono ?_
  rintro e wx ⟨rfl, rfl⟩
  go_upto_if 127 with fail
  go_cut [] (fun wd => Hid (DrS w P X b off n z B A m cL L (withT (rdP q z) A m cL) wd))
  case first =>
    clear c0 HH HM HI HPS HAN fl1 fl8 fl9 fH f30 HHE
    cases bh with
    | true =>
      have hq1 : q ≤ 1 := of_decide_eq_true HBH.out
      have hhq := HHQ.out
      have hRW := HD.out.2.2.1
      have hHn : 20 ≤ n := by
        rcases (by omega : q = 0 ∨ q = 1) with rfl | rfl
        · have : hdN 0 = 20 := rfl
          omega
        · have : hdN 1 = 27 := rfl
          omega
      clear hhq hh h17 HHQ HKQ HBH
      go_wp2_with (refine wpList_v (op := ⟨some 129, _, _, _, _, _⟩) rfl _ (slice_in _ _ _ (.tmp 128) b off n c 9 9 rfl rfl rfl rfl (by omega) hc (by omega)) ?_)
      refine (nodeAt_any b (off + 9) (n - 9) (c - 9) (fun j => z (9 + j)) wc (hRW.shift 9 _ (by omega)) (by omega) (by omega)).mono ?_
      rintro e w6 ⟨rfl, hb⟩
      have HD6 := Lib.hid (HD.out.below hb)
      clear HD hb hRW
      go_wp2_with (refine wpList_st rfl 25 (.tmp 131) (.tmp 130) rfl P 2 rfl (.agg (ndC (fun j => z (9 + j)))) (ndC (fun j => z (9 + j))) rfl rfl info_node (nd_all _) HD6.out.1 (Nat.le_of_ble_eq_true rfl) (C' := pdC (setSo (swP q z A m cL) (fun j => z (9 + j)))) (by kernel_rfl) ?_; intro w7 hst7; refine Hid.out ?_)
      refine Lib.hid ?_
      have HD7 := Lib.hid (HD6.out.put (y := setSo (swP q z A m cL) (fun j => z (9 + j))) hst7)
      clear hst7 HD6
      go_wp2_with (refine wpList_st rfl 5 (.tmp 133) (.const (.int .u8 0)) rfl P 8 rfl (.int .u8 0) #[.int .u8 0] rfl rfl (by kernel_rfl) (by kernel_rfl) HD7.out.1 (Nat.le_of_ble_eq_true rfl) (C' := pdC (setSo (swP q z A m cL) (cutSys (fun j => z (9 + j))))) (by kernel_rfl) ?_; intro w8 hst8; refine Hid.out ?_)
      refine Lib.hid ?_
      have HD8 := Lib.hid (HD7.out.put (y := setSo (swP q z A m cL) (cutSys (fun j => z (9 + j)))) hst8)
      clear hst8 HD7
      go_wp2_with fail
      go_meet
      case rel => exact Lib.hid (HD8.out.eq (by rcases (by omega : q = 0 ∨ q = 1) with rfl | rfl <;> kernel_rfl))
    | false =>
      have hq1 : ¬ q ≤ 1 := of_decide_eq_false HBH.out
      clear HBH
      go_wp2_with fail
      go_meet
      case rel => exact Lib.hid (HD.out.eq (by unfold swP; rw [if_neg (by omega), if_neg (by omega)]))
  case rest =>
  clear HD c0 HHE HBH
  have HD := hcut
  clear hcut
  obtain ⟨x, hx⟩ : ∃ x, withT (rdP q z) A m cL = x := ⟨_, rfl⟩
  rw [hx] at HD
  have hxk : x.kd = z 4 := by rw [← hx]; exact rdP_kd q z
  have hxok : PdOk x := by rw [← hx]; exact rdP_ok q HKQ.out.2 z HD.out.2.2.1.2.2
  have hxf : fitP x q = fitP (rdP q z) q := by rw [← hx]; exact fit_withT _ _ _ _ _
  have hxm : x.A = A ∧ x.m = m ∧ x.c = cL := by rw [← hx]; exact ⟨rfl, rfl, rfl⟩
  have HX := Lib.hid hx
  have HXK := Lib.hid hxk
  have HXO := Lib.hid hxok
  have HXM := Lib.hid hxm
  clear hx hxk hxok hxm
  have HF := refFields_any x q (by rw [HXK.out]; exact HKQ.out.1) HKQ.out.2 HXO.out
  obtain ⟨r, hr⟩ : ∃ r, fitP (rdP q z) q = r := ⟨_, rfl⟩
  rw [hr] at hxf
  rw [hxf] at HF
  have HF := Lib.hid HF
  have HRR := Lib.hid hr
  have HXF := Lib.hid hxf
  clear hr hxf
  go_wp2_with (refine wpList_ldr (op := ⟨some 134, _, _, _, _, _⟩) (by rfl) 31 (.tmp 4) rfl P 0 rfl (pdC x) _ (PdT.all (t := 31) (p := x) HD.out.1) Try.underlying31 rfl info_pdR ?_; refine Hid.out ?_)
  refine Lib.hid ?_
  go_wp2_with fail
  refine (HF.out _).mono ?_
  rintro e wf ⟨rfl, hb⟩
  have HDn := Lib.hid (HD.out.below hb)
  clear HD hb HF
  have HD := HDn
  clear HDn
  cases r with
  | false =>
    have HX4 := Lib.hid HD.out.2.1
    have HB4 := Lib.hid HD.out.2.2.2.1
    go_wp2_with (first
      | (refine wpList_v (op := ⟨some 137, _, _, _, _, _⟩) rfl _ (build_0d _ _ rfl _) ?_)
      | (refine wpList_st rfl 31 (.tmp 2) (.tmp 137) rfl X 0 rfl (.agg (pdC pd0)) (pdC pd0) rfl rfl info_pdR (pdC_one _) HX4.out (Nat.le_of_ble_eq_true rfl) (pd_all _ _) ?_; intro w2 hst2; refine Hid.out ?_))
    refine Lib.hid ?_
    have HX2 : Hid (PdT 31 w2 X pd0) := Lib.hid hst2.1
    have HB2 : Hid (Below w.heap.size w w2) := Lib.hid (HB4.out.trans (hst2.2.1 _ hXle))
    clear hst2
    go_wp2_with fail
    refine bodyPost_ret (results_dr rfl _ w2 X pd0 (.int .i64 3) rfl HX2.out rfl) rfl (.inl ⟨fun h => Bool.noConfusion (HRR.out.symm.trans h.2.1), rfl, HB2.out⟩)
  | true =>
    have hsz : sz L m = n - H := (sz_it HI.out m (Nat.le_refl _)).trans HPS.out
    have hbad := good_it (z := tlZ q z) (fun j => HD.out.2.2.1.2.2 _) HI.out (by rw [HPS.out]; omega)
    have HW := Lib.hid (fun W (hin : PdIn W x L) => refWrite_any x q (by rw [HXK.out]; exact HKQ.out.1) HKQ.out.2 HXO.out HXF.out L (by rw [HXM.out.2.1]; exact hbad) (by rw [HXM.out.2.1, hsz, HHQ.out]; omega) W hin)
    rw [HXM.out.2.1, hsz, HHQ.out, show H + (n - H) = n by omega] at HW
    have HBI := Lib.hid (back_iff q HKQ.out.2 z n m L A cL HKQ.out.1 h8 (by rw [HHQ.out]; exact hh) hn2 HD.out.2.2.1.2.2 HI.out (by rw [HHQ.out]; exact HPS.out))
    have HAI := Lib.hid (fun (h2 : q = 2) => all_iff x L n (by subst h2; have : hdN 2 = 27 := rfl; have := HHQ.out; omega) (by rw [HXM.out.2.1, hsz]; subst h2; have := HHQ.out; omega) z)
    rw [HX.out] at HBI
    obtain ⟨y, hy⟩ : ∃ y, pdZ x q L = y := ⟨_, rfl⟩
    rw [hy] at HW HBI
    have HY := Lib.hid hy
    clear hsz hbad hy
    go_wp2_with (refine wpList_ldr (op := ⟨some 138, _, _, _, _, _⟩) (by rfl) 31 (.tmp 4) rfl P 0 rfl (pdC x) _ (PdT.all (t := 31) (p := x) HD.out.1) Try.underlying31 rfl info_pdR ?_; refine Hid.out ?_)
    refine Lib.hid ?_
    go_wp2_with fail
    refine (HW.out _ (by
      have hoT := HD.out.2.2.2.2.1
      obtain ⟨A9, c9, e9, h1, h2, _, h4⟩ := hoT.shape
      cases e9
      exact ⟨by rw [HXM.out.1, HXM.out.2.1]; exact h4, by rw [HXM.out.2.1, HXM.out.2.2]; exact h1, by rw [HXM.out.2.2]; exact Nat.le_trans h2 (by decide)⟩)).mono ?_
    rintro e wg ⟨g1, c1, rfl, hg1, hO1, hb⟩
    have HDn := Lib.hid (HD.out.below hb)
    have HO1 := Lib.hid hO1
    have hsg := hb.size
    clear HD hb HW hO1
    have HD := HDn
    clear HDn
    go_wp2_with fail
    refine (twin_any (some ⟨b, off, none⟩) n c z wg ⟨.inr ⟨b, off, rfl, HD.out.2.2.1⟩, HD.out.2.2.1.2.2⟩ (fun h => by cases h) (by omega)).mono ?_
    rintro e wh ⟨g2, c2, rfl, hg2, hO2, hb⟩
    have HDn := Lib.hid (HD.out.below hb)
    have HO1n := Lib.hid (HO1.out.below hb HO1.out.lt)
    have HO2 := Lib.hid hO2
    have hg12 : g1 ≠ g2 := by have := HO1.out.lt; omega
    have hPg : P ≠ g2 ∧ b ≠ g2 ∧ X ≠ g2 := by have := HD.out.1.lt; have := HD.out.2.2.2.2.2; omega
    have hwg2 : w.heap.size ≤ g2 := by have := HD.out.2.2.2.1.size; omega
    have HDg := HD
    have HO1g := HO1
    have HBg := Lib.hid hb
    clear HD HO1 hb hO2
    have HD := HDn
    have HO1 := HO1n
    clear HDn HO1n
    have c0 : wh.cell? ⟨P, 0, none⟩ = some (.int .u8 (z 4)) := (HD.out.1.cell 0).trans (by rw [pdC_0, HXK.out])
    have HLE := Lib.hid (lsp_q (z 4) q HKQ.out.1 HKQ.out.2)
    obtain ⟨bl, hbl⟩ : ∃ bl, decide (q = 2) = bl := ⟨_, rfl⟩
    rw [hbl] at HLE
    have HBL := Lib.hid hbl
    clear hbl
    go_wp2_with fail
    refine (HLE.out _).mono ?_
    rintro e wx ⟨rfl, rfl⟩
    go_upto_if 144 with fail
    go_cut [] (fun wi => ∃ yz, Hid (∀ j, j < n → (q = 2 → j ≠ 24 ∧ j ≠ 25) → yz j = z j) ∧ Hid (q = 2 → yz 24 = y 24 ∧ yz 25 = y 25) ∧ Hid (Rd wi (some ⟨g1, 0, none⟩) n y) ∧ Hid (Rd wi (some ⟨g2, 0, none⟩) n yz) ∧ Hid (DrS w P X b off n z B A m cL L x wi))
    case first =>
      cases bl with
      | true =>
        have hq2 : q = 2 := of_decide_eq_true HBL.out
        have hHn : 27 ≤ n := by
          have := HHQ.out
          subst hq2
          have : hdN 2 = 27 := rfl
          omega
        have yb := HO1.out.2
        have c24 := own_at HO1.out 24 (by omega)
        have c25 := own_at HO1.out 25 (by omega)
        have d24 := own_at HO2.out 24 (by omega)
        have d25 := own_at HO2.out 25 (by omega)
        have f2 := Own8.free HO2.out
        clear HH HM HI HPS HAN fl1 fl8 fl9 fH f30 HLE HBL HBI HAI c0
        go_upto_region 31 with fail
        go_region
        all_goals (go_wp2_with fail)
        all_goals go_meet
        case rel =>
          obtain ⟨yz, l1, l2, l3, l4, l5⟩ := lay_two q HDg.out HO1g.out HBg.out HO2.out hg2 hHn
          exact ⟨yz, Lib.hid fun j hj hc2 => l1.out j hj hc2 hq2, l2, l3, l4, l5⟩
      | false =>
        have hq2 : ¬ q = 2 := of_decide_eq_false HBL.out
        clear HBL
        go_wp2_with fail
        go_meet
        case rel => exact ⟨z, Lib.hid fun _ _ _ => rfl, Lib.hid fun h => absurd h hq2, Lib.hid HO1.out.rd, Lib.hid HO2.out.rd, HD⟩
    case rest =>
    clear HD c0 HLE HBL HO1 HO2 HDg HO1g HBg
    obtain ⟨yz, HYZ, HYC, HR1, HR2, HDi⟩ := hcut
    have HP := Lib.hid HDi.out.1
    have HX0 := Lib.hid HDi.out.2.1
    have HRW := Lib.hid HDi.out.2.2.1
    have HB := Lib.hid HDi.out.2.2.2.1
    have HOT := Lib.hid HDi.out.2.2.2.2.1
    have hPB := HDi.out.2.2.2.2.2
    clear HDi
    go_wp2_with fail
    by_cases hE : FormOk z n
    · have hE1 := HBI.out.2 hE
      have hsame : ∀ j, j < n → y j = yz j := fun j hj => by
        by_cases hc2 : q = 2 → j ≠ 24 ∧ j ≠ 25
        · rw [hE1 j hj hc2, HYZ.out j hj hc2]
        · have hq2 : q = 2 := Classical.byContradiction fun h => hc2 fun h' => absurd h' h
          obtain ⟨e1, e2⟩ := HYC.out hq2
          by_cases h24 : j = 24
          · rw [h24, e1]
          · by_cases h25 : j = 25
            · rw [h25, e2]
            · exact absurd (fun _ => ⟨h24, h25⟩) hc2
      refine (same_yes (some ⟨g1, 0, none⟩) (some ⟨g2, 0, none⟩) n c1 c2 y yz _ HR1.out HR2.out hsame (by omega)).mono ?_
      rintro e wj ⟨rfl, k1, rfl⟩
      have hbd := below_drewN wc k1
      have HPn := Lib.hid (HP.out.below hbd HP.out.lt)
      have HX0n := Lib.hid (HX0.out.below hbd HX0.out.lt)
      have HRWn := Lib.hid (row_keep HRW.out (hbd.block _ HRW.out.1))
      have HBn := Lib.hid (HB.out.trans (hbd.mono HB.out.size))
      have HOTn := Lib.hid (HOT.out.below hbd)
      have HR1n := Lib.hid (HR1.out.below hbd rfl)
      obtain ⟨wj, hwj⟩ : ∃ wj, wc.drewN k1 = wj := ⟨_, rfl⟩
      rw [hwj] at HPn HX0n HRWn HBn HOTn HR1n ⊢
      clear hwj hbd HP HX0 HRW HB HOT HR1 HR2 hsame
      go_wp2_with fail
      have hall : (∀ j, j < n → y j = z j) ↔ (q = 2 → rightB (fun j => z (12 + j)) 12 (n - 12) = true) := by
        by_cases hq2 : q = 2
        · have h1 := HAI.out hq2 (fun j hj hne => by rw [← hq2, HY.out]; exact hE1 j hj (fun _ => hne))
          rw [← hq2, HY.out] at h1
          rw [h1]
          exact ⟨fun h _ => h, fun h => h hq2⟩
        · exact ⟨fun _ h => absurd h hq2, fun _ j hj => hE1 j hj (fun h => absurd h hq2)⟩
      have hOk : DrOk q z n m := ⟨by rw [HHQ.out]; exact HPS.out, HRR.out, hE⟩
      by_cases hS : ∀ j, j < n → y j = z j
      · refine (same_yes (some ⟨g1, 0, none⟩) (some ⟨b, off, none⟩) n c1 c y z _ HR1n.out ⟨.inr ⟨b, off, rfl, HRWn.out⟩, HRWn.out.2.2⟩ hS (by omega)).mono ?_
        rintro e wk ⟨rfl, k2, rfl⟩
        have hbd := below_drewN wj k2
        have HPm := Lib.hid (HPn.out.below hbd HPn.out.lt)
        have HX0m := Lib.hid (HX0n.out.below hbd HX0n.out.lt)
        have HBm := Lib.hid (HBn.out.trans (hbd.mono HBn.out.size))
        have HOTm := Lib.hid (HOTn.out.below hbd)
        obtain ⟨wk, hwk⟩ : ∃ wk, wj.drewN k2 = wk := ⟨_, rfl⟩
        rw [hwk] at HPm HX0m HBm HOTm ⊢
        have hR := hall.1 hS
        clear hwk hbd HPn HX0n HRWn HBn HOTn HR1n
        go_wp2_with (first
          | (refine wpList_ldr (op := ⟨some 165, _, _, _, _, _⟩) (by rfl) 31 (.tmp 4) rfl P 0 rfl (pdC x) _ (PdT.all (t := 31) (p := x) HPm.out) Try.underlying31 rfl info_pdR ?_)
          | (refine wpList_st rfl 31 (.tmp 2) (.tmp 165) rfl X 0 rfl (.agg (pdC x)) (pdC x) rfl rfl info_pdR (pdC_one _) HX0m.out (Nat.le_of_ble_eq_true rfl) (pd_all _ _) ?_; intro wl hstl; refine Hid.out ?_))
        refine Lib.hid ?_
        have HXl : Hid (PdT 31 wl X x) := Lib.hid hstl.1
        have HBl : Hid (Below w.heap.size w wl) := Lib.hid (HBm.out.trans (hstl.2.1 _ hXle))
        have HOTl : Hid (OwnT wl B (.slice A m cL) m L) := Lib.hid (HOTm.out.far hstl (by omega))
        clear hstl
        go_wp2_with fail
        refine bodyPost_ret (results_dr rfl _ wl X x (.int .i64 0) rfl HXl.out rfl) rfl (.inr (.inr ⟨hOk, hR, A, cL, L, by rw [HX.out], ownT_mono HOTl.out HWB, HI.out, HAN.out.1, HAN.out.2.1, HAN.out.2.2, HBl.out⟩))
      · refine (same_no (some ⟨g1, 0, none⟩) (some ⟨b, off, none⟩) n n c1 c y z _ HR1n.out ⟨.inr ⟨b, off, rfl, HRWn.out⟩, HRWn.out.2.2⟩ (fun h => hS h.2) (by omega) (by omega)).mono ?_
        rintro e wk ⟨rfl, k2, rfl⟩
        have hbd := below_drewN wj k2
        have HX4 := Lib.hid (HX0n.out.below hbd HX0n.out.lt)
        have HB4 := Lib.hid (HBn.out.trans (hbd.mono HBn.out.size))
        obtain ⟨wk, hwk⟩ : ∃ wk, wj.drewN k2 = wk := ⟨_, rfl⟩
        rw [hwk] at HX4 HB4 ⊢
        have hNR : q = 2 ∧ rightB (fun j => z (12 + j)) 12 (n - 12) = false := by
          have h1 : ¬ (q = 2 → rightB (fun j => z (12 + j)) 12 (n - 12) = true) := fun h => hS (hall.2 h)
          refine ⟨Classical.byContradiction fun h => h1 fun h' => absurd h' h, ?_⟩
          cases hb : rightB (fun j => z (12 + j)) 12 (n - 12)
          · rfl
          · exact absurd (fun _ => hb) h1
        clear hwk hbd HPn HX0n HRWn HBn HOTn HR1n
        go_wp2_with (first
          | (refine wpList_v (op := ⟨some 164, _, _, _, _, _⟩) rfl _ (build_0d _ _ rfl _) ?_)
          | (refine wpList_st rfl 31 (.tmp 2) (.tmp 164) rfl X 0 rfl (.agg (pdC pd0)) (pdC pd0) rfl rfl info_pdR (pdC_one _) HX4.out (Nat.le_of_ble_eq_true rfl) (pd_all _ _) ?_; intro w2 hst2; refine Hid.out ?_))
        refine Lib.hid ?_
        have HX2 : Hid (PdT 31 w2 X pd0) := Lib.hid hst2.1
        have HB2 : Hid (Below w.heap.size w w2) := Lib.hid (HB4.out.trans (hst2.2.1 _ hXle))
        clear hst2
        go_wp2_with fail
        refine bodyPost_ret (results_dr rfl _ w2 X pd0 (.int .i64 8) rfl HX2.out rfl) rfl (.inr (.inl ⟨hOk, hNR.1, hNR.2, rfl, HB2.out⟩))
    · have hdiff : ¬ (n = n ∧ ∀ j, j < n → y j = yz j) := fun h => hE (HBI.out.1 fun j hj hc2 => by rw [h.2 j hj, HYZ.out j hj hc2])
      refine (same_no (some ⟨g1, 0, none⟩) (some ⟨g2, 0, none⟩) n n c1 c2 y yz _ HR1.out HR2.out hdiff (by omega) (by omega)).mono ?_
      rintro e wj ⟨rfl, k1, rfl⟩
      have hbd := below_drewN wc k1
      have HX4 := Lib.hid (HX0.out.below hbd HX0.out.lt)
      have HB4 := Lib.hid (HB.out.trans (hbd.mono HB.out.size))
      obtain ⟨wj, hwj⟩ : ∃ wj, wc.drewN k1 = wj := ⟨_, rfl⟩
      rw [hwj] at HX4 HB4 ⊢
      clear hwj hbd HP HX0 HRW HB HOT HR1 HR2
      go_wp2_with (first
        | (refine wpList_v (op := ⟨some 159, _, _, _, _, _⟩) rfl _ (build_0d _ _ rfl _) ?_)
        | (refine wpList_st rfl 31 (.tmp 2) (.tmp 159) rfl X 0 rfl (.agg (pdC pd0)) (pdC pd0) rfl rfl info_pdR (pdC_one _) HX4.out (Nat.le_of_ble_eq_true rfl) (pd_all _ _) ?_; intro w2 hst2; refine Hid.out ?_))
      refine Lib.hid ?_
      have HX2 : Hid (PdT 31 w2 X pd0) := Lib.hid hst2.1
      have HB2 : Hid (Below w.heap.size w w2) := Lib.hid (HB4.out.trans (hst2.2.1 _ hXle))
      clear hst2
      go_wp2_with fail
      refine bodyPost_ret (results_dr rfl _ w2 X pd0 (.int .i64 3) rfl HX2.out rfl) rfl (.inl ⟨fun h => hE h.2.2, rfl, HB2.out⟩)
end Go.Proofs.Ytfojfdlapekjoaa

/- Read and the document's DocRead answer alike. Each theorem states its conditions. -/
namespace Go.Proofs.Ytfojfdlapekjoaa
open Go.RowKit
set_option linter.unusedVariables false

/-- both say no, with one error -/
def BothNo (n : Nat) (z : Nat → Int) (E : Int) : Prop :=
  (∀ (A : Option Addr) (c : Nat) (w : World), Rd w A n z → n ≤ c → c ≤ maxLen → Calls Try.prog 16 #[.slice A n c] w (RdErr w E)) ∧
  ∀ (A : Option Addr) (c : Nat) (w : World), Rd w A n z → n ≤ c → c ≤ maxLen → Calls Try.prog 20 #[.slice A n c] w (RdErr w E)
/-- both say what they read -/
def BothYes (n : Nat) (z : Nat → Int) (m : Nat) : Prop :=
  (∀ (A : Option Addr) (c : Nat) (w : World), Rd w A n z → n ≤ c → c ≤ maxLen → Calls Try.prog 16 #[.slice A n c] w (RdOk w (cls (z 4)) z m)) ∧
  ∀ (A : Option Addr) (c : Nat) (w : World), Rd w A n z → n ≤ c → c ≤ maxLen → Calls Try.prog 20 #[.slice A n c] w (RdOk w (cls (z 4)) z m)
theorem drP_no {w : World} {q : Nat} {z : Nat → Int} {n m : Nat} {e : Ending} {w' : World} (h : DrP w q z n m e w') (hn : ¬ DrOk q z n m) : RdErr w 3 e w' := by
  rcases h with ⟨_, h⟩ | ⟨h, _⟩ | ⟨h, _⟩
  · exact h
  · exact absurd h hn
  · exact absurd h hn
theorem drP_sum {w : World} {q : Nat} {z : Nat → Int} {n m : Nat} {e : Ending} {w' : World} (h : DrP w q z n m e w') (hn : DrOk q z n m) (h2 : q = 2) (hr : rightB (fun j => z (12 + j)) 12 (n - 12) = false) : RdErr w 8 e w' := by
  rcases h with ⟨h, _⟩ | ⟨_, _, _, h⟩ | ⟨_, h, _⟩
  · exact absurd hn h
  · exact h
  · have := h h2
    rw [hr] at this
    cases this
theorem drP_yes {w : World} {q : Nat} {z : Nat → Int} {n m : Nat} {e : Ending} {w' : World} (h : DrP w q z n m e w') (hn : DrOk q z n m) (hr : q = 2 → rightB (fun j => z (12 + j)) 12 (n - 12) = true) : RdOk w q z m e w' := by
  rcases h with ⟨h, _⟩ | ⟨_, h2, h, _⟩ | ⟨_, _, h⟩
  · exact absurd hn h
  · have := hr h2
    rw [h] at this
    cases this
  · exact h
theorem both_rd (n : Nat) (z : Nat → Int) : (∃ E : Int, (E = 2 ∨ E = 3 ∨ E = 8) ∧ BothNo n z E) ∨ ∃ m, n ≤ 1492 ∧ GoodZ z n m ∧ BothYes n z m := by
  by_cases hl : 1492 < n
  · exact .inl ⟨2, .inl rfl, fun A c w hr hc hcm => rd_long A n c w hl, fun A c w hr hc hcm => dr_long A n c w hl⟩
  have hn2 : n ≤ 1492 := by omega
  by_cases hf : FormOk z n
  · obtain ⟨h8, hq, hh, h1, h2⟩ := hf
    obtain ⟨m, hm1, hm2⟩ := pos_cases (tlZ (cls (z 4)) z) (n - hdN (cls (z 4)))
    have hE : Ends (tlZ (cls (z 4)) z) (n - hdN (cls (z 4))) m := ⟨hm1, hm2⟩
    have hf : FormOk z n := ⟨h8, hq, hh, h1, h2⟩
    have hM : ∀ (b off c : Nat) (w : World), Row8 w b off n z → n ≤ c → c ≤ maxLen → Calls Try.prog 20 #[.slice (some ⟨b, off, none⟩) n c] w (DrP w (cls (z 4)) z n m) :=
      fun b off c w hr hc hcm => dr_main b off n c z w hr hc hcm hn2 h8 _ rfl hq hh m hE
    cases hft : fitP (rdP (cls (z 4)) z) (cls (z 4))
    · refine .inl ⟨3, .inr (.inl rfl), fun A c w hr hc hcm => ?_, fun A c w hr hc hcm => ?_⟩
      · obtain ⟨b, off, rfl, hr2⟩ := hr.row (by omega)
        refine rd_formW (some ⟨b, off, none⟩) n c z w hr hn2 fun W hbW => ?_
        refine (rf_good b off n c z W (hr2.below' hbW) hc hcm hn2 hf false hft).mono fun e w' h => ?_
        exact ⟨_, _, _, _, h.1, h.2⟩
      · obtain ⟨b, off, rfl, hr2⟩ := hr.row (by omega)
        exact (hM b off c w hr2 hc hcm).mono fun e w' h => drP_no h fun hk => Bool.noConfusion (hft.symm.trans hk.2.1)
    · by_cases hp : pos (tlZ (cls (z 4)) z) m = n - hdN (cls (z 4))
      · have hok : DrOk (cls (z 4)) z n m := ⟨hp, hft, hf⟩
        by_cases h22 : cls (z 4) = 2
        · cases hrb : rightB (fun j => z (12 + j)) 12 (n - 12)
          · refine .inl ⟨8, .inr (.inr rfl), fun A c w hr hc hcm => ?_, fun A c w hr hc hcm => ?_⟩
            · obtain ⟨b, off, rfl, hr2⟩ := hr.row (by omega)
              exact rd_sum b off n c z w hr2 hc hcm hn2 _ rfl hf hft m hE hp h22 hrb
            · obtain ⟨b, off, rfl, hr2⟩ := hr.row (by omega)
              exact (hM b off c w hr2 hc hcm).mono fun e w' h => drP_sum h hok h22 hrb
          · have hg : GoodZ z n m := ⟨hf, hft, hE, hp, fun _ => hrb⟩
            refine .inr ⟨m, hn2, hg, fun A c w hr hc hcm => read_good A n c z w hr hc hcm hn2 m hg, fun A c w hr hc hcm => ?_⟩
            obtain ⟨b, off, rfl, hr2⟩ := hr.row (by omega)
            exact (hM b off c w hr2 hc hcm).mono fun e w' h => drP_yes h hok fun _ => hrb
        · have hg : GoodZ z n m := ⟨hf, hft, hE, hp, fun h => absurd h h22⟩
          refine .inr ⟨m, hn2, hg, fun A c w hr hc hcm => read_good A n c z w hr hc hcm hn2 m hg, fun A c w hr hc hcm => ?_⟩
          obtain ⟨b, off, rfl, hr2⟩ := hr.row (by omega)
          exact (hM b off c w hr2 hc hcm).mono fun e w' h => drP_yes h hok fun h => absurd h h22
      · refine .inl ⟨3, .inr (.inl rfl), fun A c w hr hc hcm => ?_, fun A c w hr hc hcm => ?_⟩
        · obtain ⟨b, off, rfl, hr2⟩ := hr.row (by omega)
          exact rd_split b off n c z w hr2 hc hcm hn2 _ rfl hf hft m hE hp
        · obtain ⟨b, off, rfl, hr2⟩ := hr.row (by omega)
          exact (hM b off c w hr2 hc hcm).mono fun e w' h => drP_no h fun hk => hp hk.1
  · refine .inl ⟨3, .inr (.inl rfl), fun A c w hr hc hcm => read_form A n c z w hr hc hcm hn2 hf, fun A c w hr hc hcm => ?_⟩
    by_cases h8 : n < 8
    · exact dr_short A n c w hn2 h8
    · obtain ⟨b, off, rfl, hr2⟩ := hr.row (by omega)
      have hcl := cls_le (z 4)
      by_cases h5 : cls (z 4) = 5
      · exact dr_kind b off n c z w hr2 hn2 (by omega) h5
      · by_cases hh : n < hdN (cls (z 4))
        · exact dr_head b off n c z w hr2 hn2 (by omega) _ rfl (by omega) hh
        · obtain ⟨m, hm1, hm2⟩ := pos_cases (tlZ (cls (z 4)) z) (n - hdN (cls (z 4)))
          exact (dr_main b off n c z w hr2 hc hcm hn2 (by omega) _ rfl (by omega) (by omega) m ⟨hm1, hm2⟩).mono fun e w' h => drP_no h fun hk => hf hk.2.2
end Go.Proofs.Ytfojfdlapekjoaa

/- Lists whose values hold whichever bytes. Each theorem states its conditions. -/
namespace Go.Proofs.Ytfojfdlapekjoaa
open Go.RowKit
set_option linter.unusedVariables false

/-- block g holds n bytes, whichever -/
def Some8 (w : World) (g n cap : Nat) : Prop := ∃ z, Own8 w g n cap z
theorem Some8.put {w : World} {g n cap : Nat} (h : Some8 w g n cap) (g' k : Nat) (v : Int) (hv : 0 ≤ v ∧ v ≤ 255) : Some8 (w.setCell ⟨g', k, none⟩ (.int .u8 v)) g n cap := by
  obtain ⟨z, h⟩ := h
  by_cases e : g = g'
  · subst e
    by_cases hk : k < n
    · exact ⟨_, h.put k hk v hv⟩
    · obtain ⟨⟨cur, hg, h1, h2, h3, h4⟩, h5⟩ := h
      refine ⟨z, ⟨cur.setIfInBounds k (.int .u8 v), ?_, h1, h2, by simpa using h3, fun j hj => ?_⟩, h5⟩
      · simp [World.setCell, Array.getElem?_modify, hg]
      · rw [Array.getElem?_setIfInBounds, if_neg (by omega)]
        exact h4 j hj
  · exact ⟨z, h.far e _⟩
/-- a list of the call's own, whose values hold whichever bytes -/
def OwnW (w : World) (base : Nat) (v : Value) (m : Nat) (K : Nat → It) : Prop :=
  w.ownsRow base 53 2 v m (cellsT K m) ∧ ∀ j, j < m → ∃ g, (K j).A = some ⟨g, 0, none⟩ ∧ base ≤ g ∧ Some8 w g (K j).n (K j).c
theorem OwnT.whichever {w : World} {base m : Nat} {v : Value} {L : Nat → It} (h : OwnT w base v m L) : OwnW w base v m L :=
  ⟨h.1, fun j hj => by obtain ⟨_, _, g, h1, h2, h3⟩ := h.2 j hj; exact ⟨g, h1, h2, _, h3⟩⟩
theorem OwnW.drew {w : World} {base m : Nat} {v : Value} {L : Nat → It} (h : OwnW w base v m L) (r : Nat) : OwnW (w.drewN r) base v m L := h
theorem OwnW.put {w : World} {base m : Nat} {v : Value} {K : Nat → It} (h : OwnW w base v m K) (k : Nat) (hk : k < m) (g : Nat) (hg : (K k).A = some ⟨g, 0, none⟩) (i : Nat) (x : Int) (hx : 0 ≤ x ∧ x ≤ 255) :
    OwnW (w.setCell ⟨g, i, none⟩ (.int .u8 x)) base v m K := by
  refine ⟨⟨h.1.1, ?_⟩, fun j hj => ?_⟩
  · rcases h.1.2 with h0 | ⟨b, cap, cur, hv, hb, hc, r⟩
    · exact .inl h0
    · refine .inr ⟨b, cap, cur, hv, hb, ?_, r⟩
      obtain ⟨g', hg', _, z, ⟨cur', hc', _⟩, _⟩ := h.2 k hk
      rw [hg] at hg'
      injection hg' with hg'
      injection hg' with hg'
      subst hg'
      have hne : b ≠ g := by
        intro e; subst e
        rw [hc] at hc'
        simp at hc'
      rw [Below.heap_setCell w _ _ b (by simpa using hne)]
      exact hc
  · obtain ⟨g', h1, h2, h3⟩ := h.2 j hj
    exact ⟨g', h1, h2, h3.put g i x hx⟩
/-- item k: its cell, its bytes -/
theorem OwnW.at {w : World} {base m : Nat} {v : Value} {K : Nat → It} (h : OwnW w base v m K) (k : Nat) (hk : k < m) :
    ∃ b c g, v = .slice (some ⟨b, 0, none⟩) m c ∧ w.cell? ⟨b, k * 2 + 1, none⟩ = some (.slice (some ⟨g, 0, none⟩) (K k).n (K k).c) ∧ (K k).A = some ⟨g, 0, none⟩ ∧ base ≤ g ∧
      ∀ i, i < (K k).n → ∃ x, 0 ≤ x ∧ x ≤ 255 ∧ w.cell? ⟨g, i, none⟩ = some (.int .u8 x) ∧ w.frozen? ⟨g, i, none⟩ = false := by
  obtain ⟨g, hg, hb, z, ho⟩ := h.2 k hk
  rcases h.1.2 with ⟨_, h0⟩ | ⟨b, cap, cur, hv, hbb, hc, h1, h2, h3, h4⟩
  · omega
  · refine ⟨b, cap, g, hv, ?_, hg, hb, fun i hi => ⟨z i, (ho.2 i).1, (ho.2 i).2, own_at ho i hi, ho.free i⟩⟩
    have hx := (cellsT_at K m k hk).2
    rw [← h4, List.getElem?_take, if_pos (by omega), hg] at hx
    rw [cell_of_row w b _ cur _ (0, 0) hc]
    simpa using hx
theorem xor1_bd (x : Int) (h : 0 ≤ x ∧ x ≤ 255) : 0 ≤ bits .xor .u8 x 1 ∧ bits .xor .u8 x 1 ≤ 255 := by
  obtain ⟨n, rfl⟩ := Int.eq_ofNat_of_zero_le h.1
  have hn : n < 256 := by omega
  have : ∀ n : Nat, n < 256 → 0 ≤ bits .xor .u8 (n : Int) 1 ∧ bits .xor .u8 (n : Int) 1 ≤ 255 := by decide +kernel
  exact this n hn
end Go.Proofs.Ytfojfdlapekjoaa

/- The walk of PduReads: for every input the law returns true, and nothing that was there is written. No condition. -/
namespace Go.Proofs.Ytfojfdlapekjoaa
open Go.RowKit
set_option linter.unusedVariables false

theorem rd_spz {w : World} {g n cap : Nat} {z : Nat → Int} (h : Own8 w g (n + 3) cap (spZ z n)) (hz : ∀ j, 0 ≤ z j ∧ z j ≤ 255) : Rd w (some ⟨g, 0, none⟩) n z := by
  refine ⟨.inr ⟨g, 0, rfl, h.lt, fun j hj => ?_, hz⟩, hz⟩
  have := h.row.2.1 j (by omega)
  rwa [spZ_in z n j hj] at this
theorem pd0_ok : PdOk pd0 := by
  have zb : ∀ j, 0 ≤ z0 j ∧ z0 j ≤ 255 := fun j => (⟨Int.le_refl 0, by decide⟩ : (0 : Int) ≤ 0 ∧ (0 : Int) ≤ 255)
  have b0 : by1 0 := ⟨Int.le_refl 0, by decide⟩
  have i0 : in64 0 := ⟨by decide, by decide⟩
  exact ⟨⟨b0, b0, zb, i0, b0, b0, zb⟩, i0, zb, Nat.zero_le _, b0, zb, zb⟩
/-- what a reader leaves -/
def RdL (w : World) (rd : Pd) (tz : Nat → Int) (m : Nat) (e : Ending) (w' : World) : Prop :=
  ∃ A c L, e = .returned (.tuple #[.agg (pdC (withT rd A m c)), .int .i64 0]) ∧ OwnT w' w.heap.size (.slice A m c) m L ∧ IsItZ tz L m ∧ (A = none → m = 0 ∧ c = 0) ∧ m ≤ c ∧ c ≤ maxLen ∧ Below w.heap.size w w'
set_option maxHeartbeats 8000000 in
set_option maxRecDepth 100000 in
theorem reads_no (A : Option Addr) (n c : Nat) (z : Nat → Int) (w : World) (h : Rd w A n z) (hA : A = none → n = 0 ∧ c = 0) (hc : n ≤ c) (hcm : c ≤ maxLen) (hn : n ≤ 140737488351232) (E : Int) (hE : E = 2 ∨ E = 3 ∨ E = 8) (hb : BothNo n z E) :
    Calls Try.prog 4 #[.slice A n c] w fun e w' => e = .returned (.bool true) ∧ Below w.heap.size w w' := by
  have HR := Lib.hid h
  have HA := Lib.hid hA
  clear h hA
  have HB := Lib.hid hb
  have hE0 : (E == 0) = false := by rcases hE with rfl | rfl | rfl <;> rfl
  have hEn : (E != E) = false := by simp
  clear hb
  go_enter Try.func4, Try.ntmps4
  go_wp2_with fail
  refine (awake_any _).mono ?_
  rintro e w1 ⟨rfl, hb1⟩
  go_wp2_with fail
  refine (spare_any A n c z _ (HR.out.below hb1 rfl) HA.out hn).mono ?_
  rintro e w2 ⟨g, cap, rfl, hg, ho, hb2⟩
  have hcap := ho.caps
  have hb12 := Lib.hid (hb1.trans (hb2.mono hb1.size))
  have hO := Lib.hid ho
  clear hb1 hb2 ho
  go_wp2_with fail
  refine (HB.out.1 (some ⟨g, 0, none⟩) cap w2 (rd_spz hO.out HR.out.2) (by omega) hcap.2).mono ?_
  rintro e w3 ⟨rfl, hb3⟩
  obtain ⟨P5, hP5⟩ : ∃ P, w3.heap.size = P := ⟨_, rfl⟩
  obtain ⟨VP5, hVP5⟩ : ∃ W, w3.alloc (.cells (pdC pd0) 33) = W := ⟨_, rfl⟩
  have HMP5 : Hid (PdT 33 VP5 P5 pd0) := Lib.hid (by rw [← hVP5, ← hP5]; exact heap_alloc_new w3 _)
  have HNP5 : Hid (Below P5 w3 VP5) := Lib.hid (by rw [← hVP5, ← hP5]; exact (bself w3).alloc (Nat.le_refl _) _)
  have HPP5 := Lib.hid hP5
  have HVP5 := Lib.hid hVP5
  clear hP5 hVP5
  go_wp2_with (first
    | (refine wpList_v (op := ⟨some 5, _, _, _, _, _⟩) rfl _ (alloc_P' _ _ rfl w3 VP5 P5 HPP5.out HVP5.out) ?_)
    | (refine wpList_st rfl 33 (.tmp 5) (.tmp 23) rfl P5 0 rfl (.agg (pdC pd0)) (pdC pd0) rfl rfl info_pdP (pdC_one _) HMP5.out (Nat.le_of_ble_eq_true rfl) (pd_all _ _) ?_; intro w5 hst; refine Hid.out ?_))
  refine Lib.hid ?_
  have hbP5 : Below w3.heap.size w3 w5 := by rw [HPP5.out]; exact HNP5.out.trans (hst.2.1 P5 (Nat.le_refl _))
  have HXP5 : Hid (PdT 33 w5 P5 pd0) := Lib.hid hst.1
  clear hst HMP5 HNP5 HVP5
  have hb25 := Lib.hid (hb3.trans (hbP5.mono hb3.size))
  have hb15 := Lib.hid (hb12.out.trans (hb25.out.mono hb12.out.size))
  clear hb3 hbP5
  go_wp2_with fail
  refine (HB.out.2 A c w5 (HR.out.below hb15.out rfl) hc hcm).mono ?_
  rintro e w6 ⟨rfl, hb6⟩
  obtain ⟨P7, hP7⟩ : ∃ P, w6.heap.size = P := ⟨_, rfl⟩
  obtain ⟨VP7, hVP7⟩ : ∃ W, w6.alloc (.cells (pdC pd0) 31) = W := ⟨_, rfl⟩
  have HMP7 : Hid (PdT 31 VP7 P7 pd0) := Lib.hid (by rw [← hVP7, ← hP7]; exact heap_alloc_new w6 _)
  have HNP7 : Hid (Below P7 w6 VP7) := Lib.hid (by rw [← hVP7, ← hP7]; exact (bself w6).alloc (Nat.le_refl _) _)
  have HPP7 := Lib.hid hP7
  have HVP7 := Lib.hid hVP7
  clear hP7 hVP7
  go_wp2_with (first
    | (refine wpList_v (op := ⟨some 7, _, _, _, _, _⟩) rfl _ (alloc_R' _ _ rfl w6 VP7 P7 HPP7.out HVP7.out) ?_)
    | (refine wpList_st rfl 31 (.tmp 7) (.tmp 28) rfl P7 0 rfl (.agg (pdC pd0)) (pdC pd0) rfl rfl info_pdR (pdC_one _) HMP7.out (Nat.le_of_ble_eq_true rfl) (pd_all _ _) ?_; intro w8 hst; refine Hid.out ?_))
  refine Lib.hid ?_
  have hbP7 : Below w6.heap.size w6 w8 := by rw [HPP7.out]; exact HNP7.out.trans (hst.2.1 P7 (Nat.le_refl _))
  have HXP7 : Hid (PdT 31 w8 P7 pd0) := Lib.hid hst.1
  clear hst HMP7 HNP7 HVP7
  have hb58 := Lib.hid (hb6.trans (hbP7.mono hb6.size))
  have HX5 := Lib.hid (HXP5.out.below hb58.out HXP5.out.lt)
  have hb28 := Lib.hid (hb25.out.trans (hb58.out.mono hb25.out.size))
  clear hb6 hbP7 HXP5 hb25 hb15
  go_wp2_with (first
    | (refine wpList_load_mid (op := ⟨some 30, _, _, _, _, _⟩) rfl 33 _ rfl P5 0 rfl (pdC pd0).toList _ HX5.out.all Try.underlying33 rfl info_pdP ?_)
    | (refine wpList_load_mid (op := ⟨some 31, _, _, _, _, _⟩) rfl 31 _ rfl P7 0 rfl (pdC pd0).toList _ HXP7.out.all Try.underlying31 rfl info_pdR ?_))
  refine (same_pd pd0 pd0 (fun _ => ⟨0, none, 0, 0, z⟩) (fun _ => ⟨0, none, 0, 0, z⟩) w8 pd0_ok rfl (.inl rfl) (.inl rfl) rfl (Nat.zero_le _) (fun j hj => absurd hj (Nat.not_lt_zero j))).mono ?_
  rintro e w9 ⟨rfl, hb9⟩
  have HX9 := Lib.hid (HX5.out.below hb9 HX5.out.lt)
  have hb29 := Lib.hid (hb28.out.trans (hb9.mono hb28.out.size))
  have hb19 := Lib.hid (hb12.out.trans (hb29.out.mono hb12.out.size))
  have c46 : w9.cell? ⟨P5, 46, none⟩ = some (.slice none 0 0) := (HX9.out.cell 46).trans rfl
  clear hb9 hb28 HX5 HXP7
  go_wp2_with fail
  refine wp_loop_rounds 1 ?_
  rw [rounds_succ]
  go_wp2_with fail
  refine (kept_yes g n cap A c z _ (hO.out.below hb29.out hO.out.lt) (HR.out.below hb19.out rfl) hn).mono ?_
  rintro e w10 ⟨rfl, r, rfl⟩
  go_wp2_with fail
  go_ret
  exact ⟨rfl, hb19.out.trans ((below_drewN w9 r).mono hb19.out.size)⟩
end Go.Proofs.Ytfojfdlapekjoaa
