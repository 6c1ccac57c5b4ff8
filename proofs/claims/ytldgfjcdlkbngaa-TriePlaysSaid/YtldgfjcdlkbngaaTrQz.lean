/- Two texts put together; each theorem states its conditions. -/
import Derived.Test.YtldgfjcdlkbngaaTrQx
import Derived.Deep.DeepCutAuto
/- The document's DocFind. Each theorem states its conditions. -/
namespace Go.Proofs.Ytldgfjcdlkbngaa
open Go.RowKit
set_option linter.unusedVariables false
set_option linter.unusedSimpArgs false

theorem index_i (o : Oper) (e : Operand → Value) (x y : Operand) (ho : o.op = .indexAddr 28 x y) (b off m c f : Nat) (h0 : e x = .slice (some ⟨b, off, none⟩) m c) (h1 : e y = .int .i64 (f : Int)) (hf : f < m) (W : World) : (execOp e o).run Try.prog W = .ok (.value (.pointer (some ⟨b, off + f * 19, none⟩))) W := by
  have h2 : (0 : Int) ≤ (f : Int) := Int.natCast_nonneg _
  have h3 : (f : Int) < (m : Int) := by omega
  unfold execOp
  simp only [ho, h0, h1]
  simp [go_sem, h2, h3]
theorem gtr_run (o : Oper) (e : Operand → Value) (x y : Operand) (ho : o.op = .binOp .gtr 3 x y 3) (a b : Int) (d : Bool) (hd : decide (b < a) = d) (h0 : e x = .int .i64 a) (h1 : e y = .int .i64 b) (W : World) : (execOp e o).run Try.prog W = .ok (.value (.bool d)) W := by
  subst hd
  unfold execOp
  simp only [ho, h0, h1]
  simp [go_sem]
theorem lss0_run (o : Oper) (e : Operand → Value) (x : Operand) (ho : o.op = .binOp .lss 3 x (.const (.int .i64 0)) 3) (a : Int) (d : Bool) (hd : decide (a < 0) = d) (h0 : e x = .int .i64 a) (hc : e (.const (.int .i64 0)) = .int .i64 0) (W : World) : (execOp e o).run Try.prog W = .ok (.value (.bool d)) W := by
  subst hd
  unfold execOp
  simp only [ho, h0, hc]
  simp [go_sem]
/-- the slot of the best so far -/
def bI : Option Nat → Int
  | none => -1
  | some q => (q : Int)
/-- an address's own key -/
def whK (pl : Bool) (z : Nat → Int) : Ky := (pl, btP (lenB pl) (whZ pl z))
theorem whK_ok {z : Nat → Int} (hz : Bytes z) (pl : Bool) : KOk (whK pl z) := ⟨lenB pl, whZ pl z, wh_b hz pl, wh_form hz pl, rfl⟩
theorem whK_pf {z : Nat → Int} (hz : Bytes z) (pl : Bool) : pvC (famB pl) (lenB pl : Nat) (whZ pl z) = pfC (kyPf (whK pl z)) := pv_of (wh_b hz pl) (wh_form hz pl)
theorem first_wh (pl : Bool) (z : Nat → Int) (hz : Bytes z) (W : World) : Calls Try.prog 67 #[.agg (pvC (famB pl) (lenB pl : Nat) z), .int .i64 (lenB pl : Int)] W fun e w' => e = .returned (.agg (pfC (kyPf (whK pl z)))) ∧ Below W.heap.size W w' := by
  have h := ref_first (famB pl) (lenB pl : Nat) (lenB pl) z W hz (by cases pl <;> decide)
  rw [show firstZ z (lenB pl) = whZ pl z from rfl, whK_pf hz] at h
  exact h
/-- what is found, told -/
noncomputable def fqR (pl : Bool) : Option It → Pf × Int × Bool × Int
  | none => (pf0, 0, false, 0)
  | some y => (kyPf y.1, y.2, true, 0)
set_option maxHeartbeats 16000000 in
set_option maxRecDepth 100000 in
theorem docFind_bad (x : Nat) (fam : Int) (z : Nat → Int) (hf : fam ≠ 4 ∧ fam ≠ 6) (w : World) : Calls Try.prog 50 #[.pointer (some ⟨x, 0, none⟩), .int .u8 fam, .agg (agC z)] w fun e w' => e = .returned (faV (pf0, 0, false, 1)) ∧ Below w.heap.size w w' := by
  have HF := Lib.hid hf
  clear hf
  go_enter Try.func50, Try.ntmps50
  have HB := Lib.hid (Below.refl w.heap.size w)
  obtain ⟨N1, hN1⟩ : ∃ N, w.heap.size = N := ⟨_, rfl⟩
  have HN1 := Lib.hid hN1
  clear hN1
  go_wp2_with (refine wpList_box (op := ⟨some 5, _, _, _, _, _⟩) rfl 23 (.tmp 2) rfl (agC z) rfl N1 HN1.out ?_; intro w1 k1 b1 s1; refine Hid.out ?_)
  refine Lib.hid ?_
  have K5 := Lib.hid k1
  clear k1
  have le_HB_N1 : w.heap.size ≤ N1 := by rw [← HN1.out]; exact HB.out.size
  have HBn := Lib.hid (HB.out.trans (b1.mono HB.out.size))
  clear HB
  have HB := HBn
  clear HBn
  clear b1 HN1
  obtain ⟨N2, hN2⟩ : ∃ N, w1.heap.size = N := ⟨_, rfl⟩
  have HN2 := Lib.hid hN2
  clear hN2
  go_wp2_with (refine wpList_new (op := ⟨some 6, _, _, _, _, _⟩) rfl 32 rfl (pvC 0 0 Z0) zero_pvT N2 HN2.out ?_; intro w2 k1 b1 s1; refine Hid.out ?_)
  refine Lib.hid ?_
  have K6 := Lib.hid k1
  clear k1
  have lt_N1_N2 : N1 < N2 := by rw [← HN2.out]; exact K5.out.lt
  have le_HB_N2 : w.heap.size ≤ N2 := by rw [← HN2.out]; exact HB.out.size
  have K5n := Lib.hid (K5.out.below b1 K5.out.lt)
  clear K5
  have K5 := K5n
  clear K5n
  have HBn := Lib.hid (HB.out.trans (b1.mono HB.out.size))
  clear HB
  have HB := HBn
  clear HBn
  clear b1 HN2
  go_wp2_with (refine wpList_v (op := ⟨some 15, _, _, _, _, _⟩) rfl (.bool true) (neq_u8 _ _ _ 4 rfl fam true (by have := HF.out; simp; omega) rfl rfl _) ?_; refine Hid.out ?_)
  refine Lib.hid ?_
  go_wp2_with (refine wpList_gv (op := ⟨some 18, _, _, _, _, _⟩) (.bool true) (by rfl) (neq_u8 _ _ _ 6 rfl fam true (by have := HF.out; simp; omega) rfl rfl _) ?_; refine Hid.out ?_)
  refine Lib.hid ?_
  go_wp2_with (refine wpList_v (op := ⟨some 20, _, _, _, _, _⟩) rfl (.agg (pvC 0 0 Z0)) (build_pv0 _ _ rfl _) ?_; refine Hid.out ?_)
  refine Lib.hid ?_
  go_wp2_with (refine wpList_st rfl 32 (.tmp 6) (.tmp 20) rfl N2 0 rfl (.agg (pvC 0 0 Z0)) (pvC 0 0 Z0) rfl rfl info_pv (all_pv _ _ _) K6.out (Nat.le_of_ble_eq_true rfl) (C' := pvC 0 0 Z0) (pv_over _ _ _ _ _ _) ?_; intro w3 q1; refine Hid.out ?_)
  refine Lib.hid ?_
  have K5n := Lib.hid (K5.out.far q1 (by omega))
  clear K5
  have K5 := K5n
  clear K5n
  have HBn := Lib.hid (HB.out.trans (q1.2.1 _ (by omega)))
  clear HB
  have HB := HBn
  clear HBn
  have K6n : Hid (Blk 32 w3 N2 (pvC 0 0 Z0)) := Lib.hid q1.1
  clear K6
  have K6 := K6n
  clear K6n q1
  go_wp2_with fail
  exact bodyPost_ret (results_4 rfl _ _ N2 (pvC 0 0 Z0) (.int .i64 0) (.bool false) (.int .i64 1) Try.underlying32 rfl info_pv rfl rfl rfl rfl K6.out) rfl ⟨rfl, HB.out⟩
set_option maxHeartbeats 16000000 in
set_option maxRecDepth 100000 in
theorem docFind_4 (x : Nat) (D : List It) (z : Nat → Int) (hz : Bytes z) (w : World) (h : DocAt w x D) (hl : D.length ≤ 1000) : Calls Try.prog 50 #[.pointer (some ⟨x, 0, none⟩), .int .u8 4, .agg (agC z)] w fun e w' => e = .returned (faV (fqR false (bst (cvQ (whK false z)) none D))) ∧ Below w.heap.size w w' := by
  obtain ⟨A, c, hs, hc1, hc2, hc3, hrd, _⟩ := h.ex
  have HRD := Lib.hid hrd
  have KX := Lib.hid hs
  have HD := Lib.hid h.ok
  have HZ := Lib.hid hz
  have HKW := Lib.hid (whK_ok hz false)
  obtain ⟨m, hm⟩ : ∃ m, D.length = m := ⟨_, rfl⟩
  have HM := Lib.hid hm
  rw [hm] at HRD KX hl
  have hmI : (m : Int) ≤ 9223372036854775807 := by omega
  have HL := Lib.hid hl
  clear hs hrd h hl hm hc1 hc2 hc3 hz
  obtain ⟨Pc, hPc⟩ : ∃ P, cvQ (whK false z) = P := ⟨_, rfl⟩
  have HPC := Lib.hid hPc
  rw [hPc]
  clear hPc
  go_enter Try.func50, Try.ntmps50
  have HB := Lib.hid (Below.refl w.heap.size w)
  obtain ⟨N1, hN1⟩ : ∃ N, w.heap.size = N := ⟨_, rfl⟩
  have HN1 := Lib.hid hN1
  clear hN1
  go_wp2_with (refine wpList_box (op := ⟨some 5, _, _, _, _, _⟩) rfl 23 (.tmp 2) rfl (agC z) rfl N1 HN1.out ?_; intro w1 k1 b1 s1; refine Hid.out ?_)
  refine Lib.hid ?_
  have K5 := Lib.hid k1
  clear k1
  have lt_x_N1 : x < N1 := by rw [← HN1.out]; exact KX.out.lt
  have le_HB_N1 : w.heap.size ≤ N1 := by rw [← HN1.out]; exact HB.out.size
  have KXn := Lib.hid (KX.out.below b1 KX.out.lt)
  clear KX
  have KX := KXn
  clear KXn
  have HBn := Lib.hid (HB.out.trans (b1.mono HB.out.size))
  clear HB
  have HB := HBn
  clear HBn
  clear b1 HN1
  obtain ⟨N2, hN2⟩ : ∃ N, w1.heap.size = N := ⟨_, rfl⟩
  have HN2 := Lib.hid hN2
  clear hN2
  go_wp2_with (refine wpList_new (op := ⟨some 6, _, _, _, _, _⟩) rfl 32 rfl (pvC 0 0 Z0) zero_pvT N2 HN2.out ?_; intro w2 k1 b1 s1; refine Hid.out ?_)
  refine Lib.hid ?_
  have K6 := Lib.hid k1
  clear k1
  have lt_x_N2 : x < N2 := by rw [← HN2.out]; exact KX.out.lt
  have lt_N1_N2 : N1 < N2 := by rw [← HN2.out]; exact K5.out.lt
  have le_HB_N2 : w.heap.size ≤ N2 := by rw [← HN2.out]; exact HB.out.size
  have KXn := Lib.hid (KX.out.below b1 KX.out.lt)
  clear KX
  have KX := KXn
  clear KXn
  have K5n := Lib.hid (K5.out.below b1 K5.out.lt)
  clear K5
  have K5 := K5n
  clear K5n
  have HBn := Lib.hid (HB.out.trans (b1.mono HB.out.size))
  clear HB
  have HB := HBn
  clear HBn
  clear b1 HN2
  go_wp2_with fail
  go_cut [10] (fun s1 wc => ∃ N, s1 = .pointer (some ⟨N, 0, none⟩) ∧ w2.heap.size ≤ N ∧ Hid (Blk 32 wc N (pfC (kyPf (whK false z)))) ∧ Hid (Below w2.heap.size w2 wc))
  case first =>
    have HBW := Lib.hid (Below.refl w2.heap.size w2)
    refine wp_region_held_drew (S := fun w' => Blk 23 w' N1 (agC z) ∧ Below w2.heap.size w2 w') (by kernel_rfl) ⟨K5.out, HBW.out.drew⟩ (fun hS => ?_)
    generalize hW41 : w2.drew = W41 at hS  ⊢
    clear hW41
    clear K5
    clear HBW
    have K5 := Lib.hid hS.1
    have HBW := Lib.hid hS.2
    refine takeY (i := 0) (some 24) (v := .int .u8 4) rfl rfl (by kernel_rfl) (by kernel_rfl) (by kernel_rfl) (fun _ _ _ h => h) (by rfl) (fun w' hS => by clear hS; go_simp) hS ?_
    simp only [Act.put, List.setIfInBounds_toArray, List.set_cons_zero, List.set_cons_succ]
    refine takeY (i := 1) (some 25) (v := .int .u8 4) rfl rfl (by kernel_rfl) (by kernel_rfl) (by kernel_rfl) (fun _ _ _ h => h) (by rfl) (fun w' hS => by clear hS; go_simp) hS ?_
    simp only [Act.put, List.setIfInBounds_toArray, List.set_cons_zero, List.set_cons_succ]
    refine takeL (i := 3) (some 27) 23 (.tmp 5) N1 0 (agC z) _ rfl rfl (by kernel_rfl) (by kernel_rfl) (by kernel_rfl) (fun _ _ _ h => h) (by rfl) rfl rfl (fun w' hS => hS.1.all) Try.underlying23 rfl (hi_ag z) hS ?_
    simp only [Act.put, List.setIfInBounds_toArray, List.set_cons_zero, List.set_cons_succ]
    refine takeY (i := 5) (some 29) (v := .int .u8 4) rfl rfl (by kernel_rfl) (by kernel_rfl) (by kernel_rfl) (fun _ _ _ h => h) (by rfl) (fun w' hS => by clear hS; go_simp) hS ?_
    simp only [Act.put, List.setIfInBounds_toArray, List.set_cons_zero, List.set_cons_succ]
    obtain ⟨M0, hM0⟩ : ∃ N, W41.heap.size = N := ⟨_, rfl⟩
    have HM0 := Lib.hid hM0
    clear hM0
    refine wpAnyH_ready (show Region.ready _ _ _ = [2, 8] from by kernel_rfl) (by simp) (consC (i := 2) (some 26) 25 #[.int .u8 4] (.int .i64 (lenB false : Int)) (R := fun w' => Below W41.heap.size W41 w') rfl rfl (by rfl) (by go_simp) (bits_pl false _) (fun w' hb => ⟨hS.1.below hb hS.1.lt, hS.2.trans (hb.mono hS.2.size)⟩) ?_ (consMk (i := 8) (some 10) 32 (pvC 0 0 Z0) rfl rfl (by rfl) rfl zero_pvT M0 HM0.out ?_ AllReadyH.nil))
    · skip
      clear HM0
      intro W42 hb1 hS2
      simp only [Act.put, List.setIfInBounds_toArray, List.set_cons_zero, List.set_cons_succ]
      clear K5
      clear HBW
      clear hS
      have hS := hS2
      clear hS2
      have K5 := Lib.hid hS.1
      have HBW := Lib.hid hS.2
      refine takeY (i := 4) (some 28) (v := .agg (pvC (famB false) (lenB false : Nat) z)) rfl rfl (by kernel_rfl) (by kernel_rfl) (by kernel_rfl) (fun _ _ _ h => h) (by rfl) (fun w' hS => by clear hS; exact build_pv _ _ _ _ _ rfl (famB false) (lenB false : Nat) z rfl rfl rfl _) hS ?_
      simp only [Act.put, List.setIfInBounds_toArray, List.set_cons_zero, List.set_cons_succ]
      clear hb1
      obtain ⟨M1, hM1⟩ : ∃ N, W42.heap.size = N := ⟨_, rfl⟩
      have HM1 := Lib.hid hM1
      clear hM1
      refine wpAnyH_ready (show Region.ready _ _ _ = [6, 8] from by kernel_rfl) (by simp) (consC (i := 6) (some 30) 25 #[.int .u8 4] (.int .i64 (lenB false : Int)) (R := fun w' => Below W42.heap.size W42 w') rfl rfl (by rfl) (by go_simp) (bits_pl false _) (fun w' hb => ⟨hS.1.below hb hS.1.lt, hS.2.trans (hb.mono hS.2.size)⟩) ?_ (consMk (i := 8) (some 10) 32 (pvC 0 0 Z0) rfl rfl (by rfl) rfl zero_pvT M1 HM1.out ?_ AllReadyH.nil))
      · skip
        clear HM1
        intro W43 hb1 hS2
        simp only [Act.put, List.setIfInBounds_toArray, List.set_cons_zero, List.set_cons_succ]
        clear K5
        clear HBW
        clear hS
        have hS := hS2
        clear hS2
        have K5 := Lib.hid hS.1
        have HBW := Lib.hid hS.2
        clear hb1
        obtain ⟨M2, hM2⟩ : ∃ N, W43.heap.size = N := ⟨_, rfl⟩
        have HM2 := Lib.hid hM2
        clear hM2
        refine wpAnyH_ready (show Region.ready _ _ _ = [7, 8] from by kernel_rfl) (by simp) (consC (i := 7) (some 31) 67 #[.agg (pvC (famB false) (lenB false : Nat) z), .int .i64 (lenB false : Int)] (.agg (pfC (kyPf (whK false z)))) (R := fun w' => Below W43.heap.size W43 w') rfl rfl (by rfl) (by go_simp) (first_wh false z HZ.out _) (fun w' hb => ⟨hS.1.below hb hS.1.lt, hS.2.trans (hb.mono hS.2.size)⟩) ?_ (consMk (i := 8) (some 10) 32 (pvC 0 0 Z0) rfl rfl (by rfl) rfl zero_pvT M2 HM2.out ?_ AllReadyH.nil))
        · skip
          clear HM2
          intro W44 hb1 hS2
          simp only [Act.put, List.setIfInBounds_toArray, List.set_cons_zero, List.set_cons_succ]
          clear K5
          clear HBW
          clear hS
          have hS := hS2
          clear hS2
          have K5 := Lib.hid hS.1
          have HBW := Lib.hid hS.2
          clear hb1
          obtain ⟨M3, hM3⟩ : ∃ N, W44.heap.size = N := ⟨_, rfl⟩
          have HM3 := Lib.hid hM3
          clear hM3
          refine takeMk (i := 8) (some 10) 32 (pvC 0 0 Z0) rfl rfl (by kernel_rfl) (by rfl) rfl zero_pvT M3 HM3.out ?_
          intro W45 k1 b1 s1
          refine ⟨⟨hS.1.below b1 hS.1.lt, hS.2.trans (b1.mono hS.2.size)⟩, ?_⟩
          simp only [Act.put, List.setIfInBounds_toArray, List.set_cons_zero, List.set_cons_succ]
          have K10 := Lib.hid k1
          clear k1
          have lt_N1_M3 : N1 < M3 := by rw [← HM3.out]; exact K5.out.lt
          have le_HBW_M3 : w2.heap.size ≤ M3 := by rw [← HM3.out]; exact HBW.out.size
          have K5n := Lib.hid (K5.out.below b1 K5.out.lt)
          clear K5
          have K5 := K5n
          clear K5n
          have HBWn := Lib.hid (HBW.out.trans (b1.mono HBW.out.size))
          clear HBW
          have HBW := HBWn
          clear HBWn
          clear b1 HM3 hS
          have hS := (And.intro K5.out HBW.out)
          refine takeSt (i := 9) 32 (.tmp 10) (.tmp 31) M3 0 (.agg (pfC (kyPf (whK false z)))) (pfC (kyPf (whK false z))) (pfC (kyPf (whK false z))) rfl rfl (by kernel_rfl) (by rfl) rfl rfl rfl rfl info_pv (all_pv _ _ _) K10.out (Nat.le_of_ble_eq_true rfl) (pv_over _ _ _ _ _ _) ?_
          intro W46 q1
          refine ⟨⟨K5.out.far q1 (by omega), HBW.out.trans (q1.2.1 _ (by omega))⟩, ?_⟩
          simp only [Act.put, List.setIfInBounds_toArray, List.set_cons_zero, List.set_cons_succ]
          have K10n : Hid (Blk 32 W46 M3 (pfC (kyPf (whK false z)))) := Lib.hid q1.1
          clear K10
          have K10 := K10n
          clear K10n
          have K5n := Lib.hid (K5.out.far q1 (by omega))
          clear K5
          have K5 := K5n
          clear K5n
          have HBWn := Lib.hid (HBW.out.trans (q1.2.1 _ (by omega)))
          clear HBW
          have HBW := HBWn
          clear HBWn
          clear q1 hS
          have hS := (And.intro K5.out HBW.out)
          clear hS
          refine wpAnyH_done (by kernel_rfl) ?_ _
          go_wp2_with fail
          go_meet
          case rel => exact ⟨M3, rfl, le_HBW_M3, K10, HBW⟩
        · skip
          intro W45 k1 b1 s1
          refine ⟨⟨hS.1.below b1 hS.1.lt, hS.2.trans (b1.mono hS.2.size)⟩, ?_⟩
          simp only [Act.put, List.setIfInBounds_toArray, List.set_cons_zero, List.set_cons_succ]
          have K10 := Lib.hid k1
          clear k1
          have lt_N1_M2 : N1 < M2 := by rw [← HM2.out]; exact K5.out.lt
          have le_HBW_M2 : w2.heap.size ≤ M2 := by rw [← HM2.out]; exact HBW.out.size
          have K5n := Lib.hid (K5.out.below b1 K5.out.lt)
          clear K5
          have K5 := K5n
          clear K5n
          have HBWn := Lib.hid (HBW.out.trans (b1.mono HBW.out.size))
          clear HBW
          have HBW := HBWn
          clear HBWn
          clear b1 HM2 hS
          have hS := (And.intro K5.out HBW.out)
          refine takeC (i := 7) (some 31) 67 #[.agg (pvC (famB false) (lenB false : Nat) z), .int .i64 (lenB false : Int)] (.agg (pfC (kyPf (whK false z)))) (R := fun w' => Below W45.heap.size W45 w') rfl rfl (by kernel_rfl) (by rfl) (by go_simp) (first_wh false z HZ.out _) (fun w' hb => ⟨hS.1.below hb hS.1.lt, hS.2.trans (hb.mono hS.2.size)⟩) ?_
          intro W46 hb1 hS2
          simp only [Act.put, List.setIfInBounds_toArray, List.set_cons_zero, List.set_cons_succ]
          have K10n := Lib.hid (K10.out.below hb1 K10.out.lt)
          clear K10
          have K10 := K10n
          clear K10n
          clear K5
          clear HBW
          clear hS
          have hS := hS2
          clear hS2
          have K5 := Lib.hid hS.1
          have HBW := Lib.hid hS.2
          clear hb1
          refine takeSt (i := 9) 32 (.tmp 10) (.tmp 31) M2 0 (.agg (pfC (kyPf (whK false z)))) (pfC (kyPf (whK false z))) (pfC (kyPf (whK false z))) rfl rfl (by kernel_rfl) (by rfl) rfl rfl rfl rfl info_pv (all_pv _ _ _) K10.out (Nat.le_of_ble_eq_true rfl) (pv_over _ _ _ _ _ _) ?_
          intro W47 q1
          refine ⟨⟨K5.out.far q1 (by omega), HBW.out.trans (q1.2.1 _ (by omega))⟩, ?_⟩
          simp only [Act.put, List.setIfInBounds_toArray, List.set_cons_zero, List.set_cons_succ]
          have K10n : Hid (Blk 32 W47 M2 (pfC (kyPf (whK false z)))) := Lib.hid q1.1
          clear K10
          have K10 := K10n
          clear K10n
          have K5n := Lib.hid (K5.out.far q1 (by omega))
          clear K5
          have K5 := K5n
          clear K5n
          have HBWn := Lib.hid (HBW.out.trans (q1.2.1 _ (by omega)))
          clear HBW
          have HBW := HBWn
          clear HBWn
          clear q1 hS
          have hS := (And.intro K5.out HBW.out)
          clear hS
          refine wpAnyH_done (by kernel_rfl) ?_ _
          go_wp2_with fail
          go_meet
          case rel => exact ⟨M2, rfl, le_HBW_M2, K10, HBW⟩
      · skip
        intro W44 k1 b1 s1
        refine ⟨⟨hS.1.below b1 hS.1.lt, hS.2.trans (b1.mono hS.2.size)⟩, ?_⟩
        simp only [Act.put, List.setIfInBounds_toArray, List.set_cons_zero, List.set_cons_succ]
        have K10 := Lib.hid k1
        clear k1
        have lt_N1_M1 : N1 < M1 := by rw [← HM1.out]; exact K5.out.lt
        have le_HBW_M1 : w2.heap.size ≤ M1 := by rw [← HM1.out]; exact HBW.out.size
        have K5n := Lib.hid (K5.out.below b1 K5.out.lt)
        clear K5
        have K5 := K5n
        clear K5n
        have HBWn := Lib.hid (HBW.out.trans (b1.mono HBW.out.size))
        clear HBW
        have HBW := HBWn
        clear HBWn
        clear b1 HM1 hS
        have hS := (And.intro K5.out HBW.out)
        refine takeC (i := 6) (some 30) 25 #[.int .u8 4] (.int .i64 (lenB false : Int)) (R := fun w' => Below W44.heap.size W44 w') rfl rfl (by kernel_rfl) (by rfl) (by go_simp) (bits_pl false _) (fun w' hb => ⟨hS.1.below hb hS.1.lt, hS.2.trans (hb.mono hS.2.size)⟩) ?_
        intro W45 hb1 hS2
        simp only [Act.put, List.setIfInBounds_toArray, List.set_cons_zero, List.set_cons_succ]
        have K10n := Lib.hid (K10.out.below hb1 K10.out.lt)
        clear K10
        have K10 := K10n
        clear K10n
        clear K5
        clear HBW
        clear hS
        have hS := hS2
        clear hS2
        have K5 := Lib.hid hS.1
        have HBW := Lib.hid hS.2
        clear hb1
        refine takeC (i := 7) (some 31) 67 #[.agg (pvC (famB false) (lenB false : Nat) z), .int .i64 (lenB false : Int)] (.agg (pfC (kyPf (whK false z)))) (R := fun w' => Below W45.heap.size W45 w') rfl rfl (by kernel_rfl) (by rfl) (by go_simp) (first_wh false z HZ.out _) (fun w' hb => ⟨hS.1.below hb hS.1.lt, hS.2.trans (hb.mono hS.2.size)⟩) ?_
        intro W46 hb1 hS2
        simp only [Act.put, List.setIfInBounds_toArray, List.set_cons_zero, List.set_cons_succ]
        have K10n := Lib.hid (K10.out.below hb1 K10.out.lt)
        clear K10
        have K10 := K10n
        clear K10n
        clear K5
        clear HBW
        clear hS
        have hS := hS2
        clear hS2
        have K5 := Lib.hid hS.1
        have HBW := Lib.hid hS.2
        clear hb1
        refine takeSt (i := 9) 32 (.tmp 10) (.tmp 31) M1 0 (.agg (pfC (kyPf (whK false z)))) (pfC (kyPf (whK false z))) (pfC (kyPf (whK false z))) rfl rfl (by kernel_rfl) (by rfl) rfl rfl rfl rfl info_pv (all_pv _ _ _) K10.out (Nat.le_of_ble_eq_true rfl) (pv_over _ _ _ _ _ _) ?_
        intro W47 q1
        refine ⟨⟨K5.out.far q1 (by omega), HBW.out.trans (q1.2.1 _ (by omega))⟩, ?_⟩
        simp only [Act.put, List.setIfInBounds_toArray, List.set_cons_zero, List.set_cons_succ]
        have K10n : Hid (Blk 32 W47 M1 (pfC (kyPf (whK false z)))) := Lib.hid q1.1
        clear K10
        have K10 := K10n
        clear K10n
        have K5n := Lib.hid (K5.out.far q1 (by omega))
        clear K5
        have K5 := K5n
        clear K5n
        have HBWn := Lib.hid (HBW.out.trans (q1.2.1 _ (by omega)))
        clear HBW
        have HBW := HBWn
        clear HBWn
        clear q1 hS
        have hS := (And.intro K5.out HBW.out)
        clear hS
        refine wpAnyH_done (by kernel_rfl) ?_ _
        go_wp2_with fail
        go_meet
        case rel => exact ⟨M1, rfl, le_HBW_M1, K10, HBW⟩
    · skip
      intro W43 k1 b1 s1
      refine ⟨⟨hS.1.below b1 hS.1.lt, hS.2.trans (b1.mono hS.2.size)⟩, ?_⟩
      simp only [Act.put, List.setIfInBounds_toArray, List.set_cons_zero, List.set_cons_succ]
      have K10 := Lib.hid k1
      clear k1
      have lt_N1_M0 : N1 < M0 := by rw [← HM0.out]; exact K5.out.lt
      have le_HBW_M0 : w2.heap.size ≤ M0 := by rw [← HM0.out]; exact HBW.out.size
      have K5n := Lib.hid (K5.out.below b1 K5.out.lt)
      clear K5
      have K5 := K5n
      clear K5n
      have HBWn := Lib.hid (HBW.out.trans (b1.mono HBW.out.size))
      clear HBW
      have HBW := HBWn
      clear HBWn
      clear b1 HM0 hS
      have hS := (And.intro K5.out HBW.out)
      refine takeC (i := 2) (some 26) 25 #[.int .u8 4] (.int .i64 (lenB false : Int)) (R := fun w' => Below W43.heap.size W43 w') rfl rfl (by kernel_rfl) (by rfl) (by go_simp) (bits_pl false _) (fun w' hb => ⟨hS.1.below hb hS.1.lt, hS.2.trans (hb.mono hS.2.size)⟩) ?_
      intro W44 hb1 hS2
      simp only [Act.put, List.setIfInBounds_toArray, List.set_cons_zero, List.set_cons_succ]
      have K10n := Lib.hid (K10.out.below hb1 K10.out.lt)
      clear K10
      have K10 := K10n
      clear K10n
      clear K5
      clear HBW
      clear hS
      have hS := hS2
      clear hS2
      have K5 := Lib.hid hS.1
      have HBW := Lib.hid hS.2
      refine takeY (i := 4) (some 28) (v := .agg (pvC (famB false) (lenB false : Nat) z)) rfl rfl (by kernel_rfl) (by kernel_rfl) (by kernel_rfl) (fun _ _ _ h => h) (by rfl) (fun w' hS => by clear hS; exact build_pv _ _ _ _ _ rfl (famB false) (lenB false : Nat) z rfl rfl rfl _) hS ?_
      simp only [Act.put, List.setIfInBounds_toArray, List.set_cons_zero, List.set_cons_succ]
      clear hb1
      refine takeC (i := 6) (some 30) 25 #[.int .u8 4] (.int .i64 (lenB false : Int)) (R := fun w' => Below W44.heap.size W44 w') rfl rfl (by kernel_rfl) (by rfl) (by go_simp) (bits_pl false _) (fun w' hb => ⟨hS.1.below hb hS.1.lt, hS.2.trans (hb.mono hS.2.size)⟩) ?_
      intro W45 hb1 hS2
      simp only [Act.put, List.setIfInBounds_toArray, List.set_cons_zero, List.set_cons_succ]
      have K10n := Lib.hid (K10.out.below hb1 K10.out.lt)
      clear K10
      have K10 := K10n
      clear K10n
      clear K5
      clear HBW
      clear hS
      have hS := hS2
      clear hS2
      have K5 := Lib.hid hS.1
      have HBW := Lib.hid hS.2
      clear hb1
      refine takeC (i := 7) (some 31) 67 #[.agg (pvC (famB false) (lenB false : Nat) z), .int .i64 (lenB false : Int)] (.agg (pfC (kyPf (whK false z)))) (R := fun w' => Below W45.heap.size W45 w') rfl rfl (by kernel_rfl) (by rfl) (by go_simp) (first_wh false z HZ.out _) (fun w' hb => ⟨hS.1.below hb hS.1.lt, hS.2.trans (hb.mono hS.2.size)⟩) ?_
      intro W46 hb1 hS2
      simp only [Act.put, List.setIfInBounds_toArray, List.set_cons_zero, List.set_cons_succ]
      have K10n := Lib.hid (K10.out.below hb1 K10.out.lt)
      clear K10
      have K10 := K10n
      clear K10n
      clear K5
      clear HBW
      clear hS
      have hS := hS2
      clear hS2
      have K5 := Lib.hid hS.1
      have HBW := Lib.hid hS.2
      clear hb1
      refine takeSt (i := 9) 32 (.tmp 10) (.tmp 31) M0 0 (.agg (pfC (kyPf (whK false z)))) (pfC (kyPf (whK false z))) (pfC (kyPf (whK false z))) rfl rfl (by kernel_rfl) (by rfl) rfl rfl rfl rfl info_pv (all_pv _ _ _) K10.out (Nat.le_of_ble_eq_true rfl) (pv_over _ _ _ _ _ _) ?_
      intro W47 q1
      refine ⟨⟨K5.out.far q1 (by omega), HBW.out.trans (q1.2.1 _ (by omega))⟩, ?_⟩
      simp only [Act.put, List.setIfInBounds_toArray, List.set_cons_zero, List.set_cons_succ]
      have K10n : Hid (Blk 32 W47 M0 (pfC (kyPf (whK false z)))) := Lib.hid q1.1
      clear K10
      have K10 := K10n
      clear K10n
      have K5n := Lib.hid (K5.out.far q1 (by omega))
      clear K5
      have K5 := K5n
      clear K5n
      have HBWn := Lib.hid (HBW.out.trans (q1.2.1 _ (by omega)))
      clear HBW
      have HBW := HBWn
      clear HBWn
      clear q1 hS
      have hS := (And.intro K5.out HBW.out)
      clear hS
      refine wpAnyH_done (by kernel_rfl) ?_ _
      go_wp2_with fail
      go_meet
      case rel => exact ⟨M0, rfl, le_HBW_M0, K10, HBW⟩
  case rest =>
    obtain ⟨N10, rfl, hN10, k10, hbc⟩ := hcut
    have b1 := hbc.out
    have KXn := Lib.hid (KX.out.below b1 KX.out.lt)
    clear KX
    have KX := KXn
    clear KXn
    have K5n := Lib.hid (K5.out.below b1 K5.out.lt)
    clear K5
    have K5 := K5n
    clear K5n
    have K6n := Lib.hid (K6.out.below b1 K6.out.lt)
    clear K6
    have K6 := K6n
    clear K6n
    have HBn := Lib.hid (HB.out.trans (b1.mono HB.out.size))
    clear HB
    have HB := HBn
    clear HBn
    clear b1 hbc
    have K10 := Lib.hid k10.out
    clear k10
    have c0 : wc.cell? ⟨x, 0, none⟩ = some (.slice A m c) := (KX.out.cell 0).trans rfl
    go_wp2_with fail
    clear c0
    obtain ⟨BL, hBL⟩ : ∃ N, wc.heap.size = N := ⟨_, rfl⟩
    have HBL := Lib.hid hBL
    have le_BL : w.heap.size ≤ BL := by rw [← hBL]; exact HB.out.size
    have lt_x : x < BL := by rw [← hBL]; exact KX.out.lt
    have lt_10 : N10 < BL := by rw [← hBL]; exact K10.out.lt
    have lt_6 : N2 < BL := by rw [← hBL]; exact K6.out.lt
    have HR1 := Lib.hid (HRD.out.below HB.out rfl)
    clear hBL
    go_loopw [11, 37] (fun b t wr => ∃ (j : Nat) (bb : Option Nat), j ≤ m ∧ t = .int .i64 j ∧ b = .int .i64 (bI bb) ∧ Hid (Below BL wc wr) ∧ Hid (BsP Pc D j bb)) (fun _ t _ => m - (intOf t).toNat)
    case atStart => exact ⟨0, none, by omega, rfl, rfl, Lib.hid (Below.refl _ _), Lib.hid bs_start⟩
    case round =>
      obtain ⟨j, bb, hj, rfl, rfl, HQ, HP⟩ := hrel
      have KXw := Lib.hid (KX.out.below HQ.out lt_x)
      have K10w := Lib.hid (K10.out.below HQ.out lt_10)
      by_cases hlt : j < m
      · have hki : (j : Int) < (m : Int) := by omega
        obtain ⟨bA, off, rfl, hr⟩ := HR1.out.row (by omega)
        have HR := Lib.hid hr
        have HBA : Hid (bA < BL) := Lib.hid (by have := hr.1; rw [HBL.out] at this; exact this)
        obtain ⟨x1, hx⟩ : ∃ r, D[j]? = some r := ⟨_, List.getElem?_eq_getElem (by rw [HM.out]; exact hlt)⟩
        have HX := Lib.hid hx
        have h1 : Hid (wr.rangeAt bA (off + j * 19) (itK x1).toList) := Lib.hid (it_read hr HQ.out HBA.out hlt hx)
        clear hr hx
        have HKX : Hid (KOk x1.1) := Lib.hid (HD.out x1 (List.mem_of_getElem? HX.out))
        go_wp2_with (refine wpList_ld (op := ⟨some 41, _, _, _, _, _⟩) (by rfl) 96 (.tmp 40) rfl bA (off + j * 19) rfl (itK x1) _ h1.out Try.underlying96 rfl info_it ?_; refine Hid.out ?_)
        refine Lib.hid ?_
        clear h1
        obtain ⟨N13, hN13⟩ : ∃ N, wr.heap.size = N := ⟨_, rfl⟩
        have HN13 := Lib.hid hN13
        have le_13 : BL ≤ N13 := by rw [← hN13]; have := HQ.out.size; rw [HBL.out] at this; exact this
        clear hN13
        go_wp2_with (refine wpList_new (op := ⟨some 13, _, _, _, _, _⟩) rfl 96 rfl (itC ⟨0, 0, Z0⟩ 0) zero_it N13 HN13.out ?_; intro w5 k1 b1 s9; refine Hid.out ?_)
        refine Lib.hid ?_
        have K13 := Lib.hid k1
        have HB1 := Lib.hid b1
        clear k1 b1 s9
        go_wp2_with (refine wpList_st rfl 96 (.tmp 13) (.tmp 41) rfl N13 0 rfl (.agg (itK x1)) (itK x1) rfl rfl info_it (it_one _ _) K13.out (Nat.le_of_ble_eq_true rfl) (C' := itK x1) (it_over _ _) ?_; intro w6 q1; refine Hid.out ?_)
        refine Lib.hid ?_
        have b1 : Below wr.heap.size wr w6 := HB1.out.trans (q1.2.1 _ (by rw [HN13.out]; exact Nat.le_refl _))
        have K13n : Hid (Blk 96 w6 N13 (itK x1)) := Lib.hid q1.1
        clear K13
        have K13 := K13n
        clear K13n q1 HB1 HN13
        have HQn := Lib.hid (HQ.out.trans (b1.mono (by have := HQ.out.size; rw [HBL.out] at this; exact this)))
        clear HQ
        have HQ := HQn
        clear HQn
        have KXwn := Lib.hid (KXw.out.below b1 KXw.out.lt)
        clear KXw
        have KXw := KXwn
        clear KXwn
        have K10wn := Lib.hid (K10w.out.below b1 K10w.out.lt)
        clear K10w
        have K10w := K10wn
        clear K10wn
        clear b1
        obtain ⟨cv, hcv⟩ : ∃ d, cvQ (whK false z) x1.1 = d := ⟨_, rfl⟩
        have HCV := Lib.hid hcv
        have HPX : Hid (Pc x1.1 = cv) := Lib.hid (by rw [← HPC.out]; exact hcv)
        clear hcv
        go_wp2_with fail
        cases cv with
        | false =>
          have HQc : Hid (Below wc.heap.size wc w6) := Lib.hid (by rw [HBL.out]; exact HQ.out)
          clear HQ
          refine wp_region_held_drew (S := fun w' => Blk 96 w' N13 (itK x1) ∧ Blk 32 w' N10 (pfC (kyPf (whK false z))) ∧ Blk 30 w' x (#[.slice (some ⟨bA, off, none⟩) m c]) ∧ Below wc.heap.size wc w') (by kernel_rfl) ⟨K13.out, K10w.out, KXw.out, HQc.out.drew⟩ (fun hS => ?_)
          generalize hW61 : w6.drew = W61 at hS  ⊢
          clear hW61
          clear K13
          clear K10w
          clear KXw
          clear HQc
          have K13 := Lib.hid hS.1
          have K10w := Lib.hid hS.2.1
          have KXw := Lib.hid hS.2.2.1
          have HQc := Lib.hid hS.2.2.2
          refine takeY (i := 0) (some 42) (v := .pointer (some ⟨N13, 0, none⟩)) rfl rfl (by kernel_rfl) (by kernel_rfl) (by kernel_rfl) (fun _ _ _ h => h) (by rfl) (fun w' hS => by clear hS; go_simp) hS ?_
          simp only [Act.put, List.setIfInBounds_toArray, List.set_cons_zero, List.set_cons_succ]
          refine takeL (i := 1) (some 43) 32 (.tmp 42) N13 0 (pfC (kyPf x1.1)) _ rfl rfl (by kernel_rfl) (by kernel_rfl) (by kernel_rfl) (fun _ _ _ h => h) (by rfl) rfl rfl (fun w' hS => hS.1.itpf) Try.underlying32 rfl (hi_pv _ _ _) hS ?_
          simp only [Act.put, List.setIfInBounds_toArray, List.set_cons_zero, List.set_cons_succ]
          refine takeL (i := 2) (some 44) 32 (.tmp 10) N10 0 (pfC (kyPf (whK false z))) _ rfl rfl (by kernel_rfl) (by kernel_rfl) (by kernel_rfl) (fun _ _ _ h => h) (by rfl) rfl rfl (fun w' hS => hS.2.1.all) Try.underlying32 rfl (hi_pv _ _ _) hS ?_
          simp only [Act.put, List.setIfInBounds_toArray, List.set_cons_zero, List.set_cons_succ]
          refine takeC (i := 3) (some 45) 68 #[.agg (pfC (kyPf x1.1)), .agg (pfC (kyPf (whK false z)))] (.bool false) (R := fun w' => Below W61.heap.size W61 w') rfl rfl (by kernel_rfl) (by rfl) (by go_simp) (by have h9 := covK HKX.out HKW.out W61; rw [HCV.out] at h9; exact h9) (fun w' hb => ⟨hS.1.below hb hS.1.lt, hS.2.1.below hb hS.2.1.lt, hS.2.2.1.below hb hS.2.2.1.lt, hS.2.2.2.trans (hb.mono hS.2.2.2.size)⟩) (fun W62 hb1 hS2 => ?_)
          simp only [Act.put, List.setIfInBounds_toArray, List.set_cons_zero, List.set_cons_succ]
          clear K13
          clear K10w
          clear KXw
          clear HQc
          clear hS hb1
          have hS := hS2
          clear hS2
          have K13 := Lib.hid hS.1
          have K10w := Lib.hid hS.2.1
          have KXw := Lib.hid hS.2.2.1
          have HQc := Lib.hid hS.2.2.2
          refine takeY (i := 4) (some 46) (v := .bool false) rfl rfl (by kernel_rfl) (by kernel_rfl) (by kernel_rfl) (fun _ _ _ h => h) (by rfl) (fun w' hS => by clear hS; go_simp) hS ?_
          simp only [Act.put, List.setIfInBounds_toArray, List.set_cons_zero, List.set_cons_succ]
          refine takeN (i := 5) (some 47) rfl rfl (by kernel_rfl) (by kernel_rfl) (by kernel_rfl) (fun _ _ _ h => h) (by rfl) hS ?_
          simp only [Act.put, List.setIfInBounds_toArray, List.set_cons_zero, List.set_cons_succ]
          refine takeN (i := 6) (some 48) rfl rfl (by kernel_rfl) (by kernel_rfl) (by kernel_rfl) (fun _ _ _ h => h) (by rfl) hS ?_
          simp only [Act.put, List.setIfInBounds_toArray, List.set_cons_zero, List.set_cons_succ]
          refine takeN (i := 7) (some 49) rfl rfl (by kernel_rfl) (by kernel_rfl) (by kernel_rfl) (fun _ _ _ h => h) (by rfl) hS ?_
          simp only [Act.put, List.setIfInBounds_toArray, List.set_cons_zero, List.set_cons_succ]
          refine takeN (i := 8) (some 50) rfl rfl (by kernel_rfl) (by kernel_rfl) (by kernel_rfl) (fun _ _ _ h => h) (by rfl) hS ?_
          simp only [Act.put, List.setIfInBounds_toArray, List.set_cons_zero, List.set_cons_succ]
          refine takeN (i := 9) (some 51) rfl rfl (by kernel_rfl) (by kernel_rfl) (by kernel_rfl) (fun _ _ _ h => h) (by rfl) hS ?_
          simp only [Act.put, List.setIfInBounds_toArray, List.set_cons_zero, List.set_cons_succ]
          refine takeN (i := 10) (some 52) rfl rfl (by kernel_rfl) (by kernel_rfl) (by kernel_rfl) (fun _ _ _ h => h) (by rfl) hS ?_
          simp only [Act.put, List.setIfInBounds_toArray, List.set_cons_zero, List.set_cons_succ]
          refine takeN (i := 11) (some 53) rfl rfl (by kernel_rfl) (by kernel_rfl) (by kernel_rfl) (fun _ _ _ h => h) (by rfl) hS ?_
          simp only [Act.put, List.setIfInBounds_toArray, List.set_cons_zero, List.set_cons_succ]
          refine takeN (i := 12) (some 54) rfl rfl (by kernel_rfl) (by kernel_rfl) (by kernel_rfl) (fun _ _ _ h => h) (by rfl) hS ?_
          simp only [Act.put, List.setIfInBounds_toArray, List.set_cons_zero, List.set_cons_succ]
          refine takeN (i := 13) (some 55) rfl rfl (by kernel_rfl) (by kernel_rfl) (by kernel_rfl) (fun _ _ _ h => h) (by rfl) hS ?_
          simp only [Act.put, List.setIfInBounds_toArray, List.set_cons_zero, List.set_cons_succ]
          refine takeN (i := 14) (some 56) rfl rfl (by kernel_rfl) (by kernel_rfl) (by kernel_rfl) (fun _ _ _ h => h) (by rfl) hS ?_
          simp only [Act.put, List.setIfInBounds_toArray, List.set_cons_zero, List.set_cons_succ]
          refine takeN (i := 15) (some 57) rfl rfl (by kernel_rfl) (by kernel_rfl) (by kernel_rfl) (fun _ _ _ h => h) (by rfl) hS ?_
          simp only [Act.put, List.setIfInBounds_toArray, List.set_cons_zero, List.set_cons_succ]
          refine takeN (i := 16) (some 58) rfl rfl (by kernel_rfl) (by kernel_rfl) (by kernel_rfl) (fun _ _ _ h => h) (by rfl) hS ?_
          simp only [Act.put, List.setIfInBounds_toArray, List.set_cons_zero, List.set_cons_succ]
          refine takeN (i := 17) (some 59) rfl rfl (by kernel_rfl) (by kernel_rfl) (by kernel_rfl) (fun _ _ _ h => h) (by rfl) hS ?_
          simp only [Act.put, List.setIfInBounds_toArray, List.set_cons_zero, List.set_cons_succ]
          refine takeN (i := 18) (some 60) rfl rfl (by kernel_rfl) (by kernel_rfl) (by kernel_rfl) (fun _ _ _ h => h) (by rfl) hS ?_
          simp only [Act.put, List.setIfInBounds_toArray, List.set_cons_zero, List.set_cons_succ]
          refine takeN (i := 19) (some 61) rfl rfl (by kernel_rfl) (by kernel_rfl) (by kernel_rfl) (fun _ _ _ h => h) (by rfl) hS ?_
          simp only [Act.put, List.setIfInBounds_toArray, List.set_cons_zero, List.set_cons_succ]
          refine takeN (i := 20) (some 62) rfl rfl (by kernel_rfl) (by kernel_rfl) (by kernel_rfl) (fun _ _ _ h => h) (by rfl) hS ?_
          simp only [Act.put, List.setIfInBounds_toArray, List.set_cons_zero, List.set_cons_succ]
          refine takeN (i := 21) (some 63) rfl rfl (by kernel_rfl) (by kernel_rfl) (by kernel_rfl) (fun _ _ _ h => h) (by rfl) hS ?_
          simp only [Act.put, List.setIfInBounds_toArray, List.set_cons_zero, List.set_cons_succ]
          refine takeY (i := 22) (some 64) (v := .bool false) rfl rfl (by kernel_rfl) (by kernel_rfl) (by kernel_rfl) (fun _ _ _ h => h) (by rfl) (fun w' hS => by clear hS; go_simp) hS ?_
          simp only [Act.put, List.setIfInBounds_toArray, List.set_cons_zero, List.set_cons_succ]
          clear hS
          refine wpAnyH_done (by kernel_rfl) ?_ _
          have HQ : Hid (Below BL wc W62) := Lib.hid (by rw [← HBL.out]; exact HQc.out)
          have HPn := Lib.hid (bs_no _ HP.out HX.out HPX.out)
          go_wp2_with fail
          go_roundw
          case rel => exact ⟨j + 1, bb, by omega, by go_num, rfl, HQ, HPn⟩
          case measure => simp only [intOf]; omega
        | true =>
          cases bb with
          | none =>
            have HQc : Hid (Below wc.heap.size wc w6) := Lib.hid (by rw [HBL.out]; exact HQ.out)
            clear HQ
            refine wp_region_held_drew (S := fun w' => Blk 96 w' N13 (itK x1) ∧ Blk 32 w' N10 (pfC (kyPf (whK false z))) ∧ Blk 30 w' x (#[.slice (some ⟨bA, off, none⟩) m c]) ∧ Below wc.heap.size wc w') (by kernel_rfl) ⟨K13.out, K10w.out, KXw.out, HQc.out.drew⟩ (fun hS => ?_)
            generalize hW61 : w6.drew = W61 at hS  ⊢
            clear hW61
            clear K13
            clear K10w
            clear KXw
            clear HQc
            have K13 := Lib.hid hS.1
            have K10w := Lib.hid hS.2.1
            have KXw := Lib.hid hS.2.2.1
            have HQc := Lib.hid hS.2.2.2
            refine takeY (i := 0) (some 42) (v := .pointer (some ⟨N13, 0, none⟩)) rfl rfl (by kernel_rfl) (by kernel_rfl) (by kernel_rfl) (fun _ _ _ h => h) (by rfl) (fun w' hS => by clear hS; go_simp) hS ?_
            simp only [Act.put, List.setIfInBounds_toArray, List.set_cons_zero, List.set_cons_succ]
            refine takeL (i := 1) (some 43) 32 (.tmp 42) N13 0 (pfC (kyPf x1.1)) _ rfl rfl (by kernel_rfl) (by kernel_rfl) (by kernel_rfl) (fun _ _ _ h => h) (by rfl) rfl rfl (fun w' hS => hS.1.itpf) Try.underlying32 rfl (hi_pv _ _ _) hS ?_
            simp only [Act.put, List.setIfInBounds_toArray, List.set_cons_zero, List.set_cons_succ]
            refine takeL (i := 2) (some 44) 32 (.tmp 10) N10 0 (pfC (kyPf (whK false z))) _ rfl rfl (by kernel_rfl) (by kernel_rfl) (by kernel_rfl) (fun _ _ _ h => h) (by rfl) rfl rfl (fun w' hS => hS.2.1.all) Try.underlying32 rfl (hi_pv _ _ _) hS ?_
            simp only [Act.put, List.setIfInBounds_toArray, List.set_cons_zero, List.set_cons_succ]
            refine takeC (i := 3) (some 45) 68 #[.agg (pfC (kyPf x1.1)), .agg (pfC (kyPf (whK false z)))] (.bool true) (R := fun w' => Below W61.heap.size W61 w') rfl rfl (by kernel_rfl) (by rfl) (by go_simp) (by have h9 := covK HKX.out HKW.out W61; rw [HCV.out] at h9; exact h9) (fun w' hb => ⟨hS.1.below hb hS.1.lt, hS.2.1.below hb hS.2.1.lt, hS.2.2.1.below hb hS.2.2.1.lt, hS.2.2.2.trans (hb.mono hS.2.2.2.size)⟩) (fun W62 hb1 hS2 => ?_)
            simp only [Act.put, List.setIfInBounds_toArray, List.set_cons_zero, List.set_cons_succ]
            clear K13
            clear K10w
            clear KXw
            clear HQc
            clear hS hb1
            have hS := hS2
            clear hS2
            have K13 := Lib.hid hS.1
            have K10w := Lib.hid hS.2.1
            have KXw := Lib.hid hS.2.2.1
            have HQc := Lib.hid hS.2.2.2
            refine takeY (i := 4) (some 46) (v := .bool true) rfl rfl (by kernel_rfl) (by kernel_rfl) (by kernel_rfl) (fun _ _ _ h => h) (by rfl) (fun w' hS => by clear hS; go_simp) hS ?_
            simp only [Act.put, List.setIfInBounds_toArray, List.set_cons_zero, List.set_cons_succ]
            refine takeY (i := 5) (some 47) (v := .int .i64 (bI none)) rfl rfl (by kernel_rfl) (by kernel_rfl) (by kernel_rfl) (fun _ _ _ h => h) (by rfl) (fun w' hS => by clear hS; go_simp) hS ?_
            simp only [Act.put, List.setIfInBounds_toArray, List.set_cons_zero, List.set_cons_succ]
            refine takeY (i := 6) (some 48) (v := .bool true) rfl rfl (by kernel_rfl) (by kernel_rfl) (by kernel_rfl) (fun _ _ _ h => h) (by rfl) (fun w' hS => by clear hS; exact lss0_run _ _ _ rfl _ true (by decide) rfl rfl _) hS ?_
            simp only [Act.put, List.setIfInBounds_toArray, List.set_cons_zero, List.set_cons_succ]
            refine takeY (i := 7) (some 49) (v := .bool true) rfl rfl (by kernel_rfl) (by kernel_rfl) (by kernel_rfl) (fun _ _ _ h => h) (by rfl) (fun w' hS => by clear hS; go_simp) hS ?_
            simp only [Act.put, List.setIfInBounds_toArray, List.set_cons_zero, List.set_cons_succ]
            refine takeN (i := 8) (some 50) rfl rfl (by kernel_rfl) (by kernel_rfl) (by kernel_rfl) (fun _ _ _ h => h) (by rfl) hS ?_
            simp only [Act.put, List.setIfInBounds_toArray, List.set_cons_zero, List.set_cons_succ]
            refine takeN (i := 9) (some 51) rfl rfl (by kernel_rfl) (by kernel_rfl) (by kernel_rfl) (fun _ _ _ h => h) (by rfl) hS ?_
            simp only [Act.put, List.setIfInBounds_toArray, List.set_cons_zero, List.set_cons_succ]
            refine takeN (i := 10) (some 52) rfl rfl (by kernel_rfl) (by kernel_rfl) (by kernel_rfl) (fun _ _ _ h => h) (by rfl) hS ?_
            simp only [Act.put, List.setIfInBounds_toArray, List.set_cons_zero, List.set_cons_succ]
            refine takeN (i := 11) (some 53) rfl rfl (by kernel_rfl) (by kernel_rfl) (by kernel_rfl) (fun _ _ _ h => h) (by rfl) hS ?_
            simp only [Act.put, List.setIfInBounds_toArray, List.set_cons_zero, List.set_cons_succ]
            refine takeN (i := 12) (some 54) rfl rfl (by kernel_rfl) (by kernel_rfl) (by kernel_rfl) (fun _ _ _ h => h) (by rfl) hS ?_
            simp only [Act.put, List.setIfInBounds_toArray, List.set_cons_zero, List.set_cons_succ]
            refine takeN (i := 13) (some 55) rfl rfl (by kernel_rfl) (by kernel_rfl) (by kernel_rfl) (fun _ _ _ h => h) (by rfl) hS ?_
            simp only [Act.put, List.setIfInBounds_toArray, List.set_cons_zero, List.set_cons_succ]
            refine takeN (i := 14) (some 56) rfl rfl (by kernel_rfl) (by kernel_rfl) (by kernel_rfl) (fun _ _ _ h => h) (by rfl) hS ?_
            simp only [Act.put, List.setIfInBounds_toArray, List.set_cons_zero, List.set_cons_succ]
            refine takeN (i := 15) (some 57) rfl rfl (by kernel_rfl) (by kernel_rfl) (by kernel_rfl) (fun _ _ _ h => h) (by rfl) hS ?_
            simp only [Act.put, List.setIfInBounds_toArray, List.set_cons_zero, List.set_cons_succ]
            refine takeN (i := 16) (some 58) rfl rfl (by kernel_rfl) (by kernel_rfl) (by kernel_rfl) (fun _ _ _ h => h) (by rfl) hS ?_
            simp only [Act.put, List.setIfInBounds_toArray, List.set_cons_zero, List.set_cons_succ]
            refine takeN (i := 17) (some 59) rfl rfl (by kernel_rfl) (by kernel_rfl) (by kernel_rfl) (fun _ _ _ h => h) (by rfl) hS ?_
            simp only [Act.put, List.setIfInBounds_toArray, List.set_cons_zero, List.set_cons_succ]
            refine takeN (i := 18) (some 60) rfl rfl (by kernel_rfl) (by kernel_rfl) (by kernel_rfl) (fun _ _ _ h => h) (by rfl) hS ?_
            simp only [Act.put, List.setIfInBounds_toArray, List.set_cons_zero, List.set_cons_succ]
            refine takeN (i := 19) (some 61) rfl rfl (by kernel_rfl) (by kernel_rfl) (by kernel_rfl) (fun _ _ _ h => h) (by rfl) hS ?_
            simp only [Act.put, List.setIfInBounds_toArray, List.set_cons_zero, List.set_cons_succ]
            refine takeN (i := 20) (some 62) rfl rfl (by kernel_rfl) (by kernel_rfl) (by kernel_rfl) (fun _ _ _ h => h) (by rfl) hS ?_
            simp only [Act.put, List.setIfInBounds_toArray, List.set_cons_zero, List.set_cons_succ]
            refine takeY (i := 21) (some 63) (v := .bool true) rfl rfl (by kernel_rfl) (by kernel_rfl) (by kernel_rfl) (fun _ _ _ h => h) (by rfl) (fun w' hS => by clear hS; go_simp) hS ?_
            simp only [Act.put, List.setIfInBounds_toArray, List.set_cons_zero, List.set_cons_succ]
            refine takeY (i := 22) (some 64) (v := .bool true) rfl rfl (by kernel_rfl) (by kernel_rfl) (by kernel_rfl) (fun _ _ _ h => h) (by rfl) (fun w' hS => by clear hS; go_simp) hS ?_
            simp only [Act.put, List.setIfInBounds_toArray, List.set_cons_zero, List.set_cons_succ]
            clear hS
            refine wpAnyH_done (by kernel_rfl) ?_ _
            have HQ : Hid (Below BL wc W62) := Lib.hid (by rw [← HBL.out]; exact HQc.out)
            have HPn := Lib.hid (bs_first HP.out HX.out HPX.out)
            go_wp2_with fail
            go_roundw
            case rel => exact ⟨j + 1, some j, by omega, by go_num, rfl, HQ, HPn⟩
            case measure => simp only [intOf]; omega
          | some q =>
            obtain ⟨yq, hy, _⟩ := id HP.out
            have HY := Lib.hid hy
            have HQM : Hid (q < m) := Lib.hid (by rw [← HM.out]; exact (List.getElem?_eq_some_iff.1 hy).1)
            clear hy
            by_cases hll : yq.1.2.length < x1.1.2.length
            · have HLL := Lib.hid hll
              clear hll
              have HQc : Hid (Below wc.heap.size wc w6) := Lib.hid (by rw [HBL.out]; exact HQ.out)
              clear HQ
              refine wp_region_held_drew (S := fun w' => Blk 96 w' N13 (itK x1) ∧ Blk 32 w' N10 (pfC (kyPf (whK false z))) ∧ Blk 30 w' x (#[.slice (some ⟨bA, off, none⟩) m c]) ∧ Below wc.heap.size wc w') (by kernel_rfl) ⟨K13.out, K10w.out, KXw.out, HQc.out.drew⟩ (fun hS => ?_)
              generalize hW61 : w6.drew = W61 at hS  ⊢
              clear hW61
              clear K13
              clear K10w
              clear KXw
              clear HQc
              have K13 := Lib.hid hS.1
              have K10w := Lib.hid hS.2.1
              have KXw := Lib.hid hS.2.2.1
              have HQc := Lib.hid hS.2.2.2
              refine takeY (i := 0) (some 42) (v := .pointer (some ⟨N13, 0, none⟩)) rfl rfl (by kernel_rfl) (by kernel_rfl) (by kernel_rfl) (fun _ _ _ h => h) (by rfl) (fun w' hS => by clear hS; go_simp) hS ?_
              simp only [Act.put, List.setIfInBounds_toArray, List.set_cons_zero, List.set_cons_succ]
              refine takeL (i := 1) (some 43) 32 (.tmp 42) N13 0 (pfC (kyPf x1.1)) _ rfl rfl (by kernel_rfl) (by kernel_rfl) (by kernel_rfl) (fun _ _ _ h => h) (by rfl) rfl rfl (fun w' hS => hS.1.itpf) Try.underlying32 rfl (hi_pv _ _ _) hS ?_
              simp only [Act.put, List.setIfInBounds_toArray, List.set_cons_zero, List.set_cons_succ]
              refine takeL (i := 2) (some 44) 32 (.tmp 10) N10 0 (pfC (kyPf (whK false z))) _ rfl rfl (by kernel_rfl) (by kernel_rfl) (by kernel_rfl) (fun _ _ _ h => h) (by rfl) rfl rfl (fun w' hS => hS.2.1.all) Try.underlying32 rfl (hi_pv _ _ _) hS ?_
              simp only [Act.put, List.setIfInBounds_toArray, List.set_cons_zero, List.set_cons_succ]
              refine takeC (i := 3) (some 45) 68 #[.agg (pfC (kyPf x1.1)), .agg (pfC (kyPf (whK false z)))] (.bool true) (R := fun w' => Below W61.heap.size W61 w') rfl rfl (by kernel_rfl) (by rfl) (by go_simp) (by have h9 := covK HKX.out HKW.out W61; rw [HCV.out] at h9; exact h9) (fun w' hb => ⟨hS.1.below hb hS.1.lt, hS.2.1.below hb hS.2.1.lt, hS.2.2.1.below hb hS.2.2.1.lt, hS.2.2.2.trans (hb.mono hS.2.2.2.size)⟩) (fun W62 hb1 hS2 => ?_)
              simp only [Act.put, List.setIfInBounds_toArray, List.set_cons_zero, List.set_cons_succ]
              clear K13
              clear K10w
              clear KXw
              clear HQc
              clear hS hb1
              have hS := hS2
              clear hS2
              have K13 := Lib.hid hS.1
              have K10w := Lib.hid hS.2.1
              have KXw := Lib.hid hS.2.2.1
              have HQc := Lib.hid hS.2.2.2
              refine takeY (i := 4) (some 46) (v := .bool true) rfl rfl (by kernel_rfl) (by kernel_rfl) (by kernel_rfl) (fun _ _ _ h => h) (by rfl) (fun w' hS => by clear hS; go_simp) hS ?_
              simp only [Act.put, List.setIfInBounds_toArray, List.set_cons_zero, List.set_cons_succ]
              refine takeY (i := 5) (some 47) (v := .int .i64 (bI (some q))) rfl rfl (by kernel_rfl) (by kernel_rfl) (by kernel_rfl) (fun _ _ _ h => h) (by rfl) (fun w' hS => by clear hS; go_simp) hS ?_
              simp only [Act.put, List.setIfInBounds_toArray, List.set_cons_zero, List.set_cons_succ]
              refine takeY (i := 6) (some 48) (v := .bool false) rfl rfl (by kernel_rfl) (by kernel_rfl) (by kernel_rfl) (fun _ _ _ h => h) (by rfl) (fun w' hS => by clear hS; exact lss0_run _ _ _ rfl _ false (by exact decide_eq_false (by show ¬ (q : Int) < 0; omega)) rfl rfl _) hS ?_
              simp only [Act.put, List.setIfInBounds_toArray, List.set_cons_zero, List.set_cons_succ]
              refine takeY (i := 7) (some 49) (v := .bool false) rfl rfl (by kernel_rfl) (by kernel_rfl) (by kernel_rfl) (fun _ _ _ h => h) (by rfl) (fun w' hS => by clear hS; go_simp) hS ?_
              simp only [Act.put, List.setIfInBounds_toArray, List.set_cons_zero, List.set_cons_succ]
              refine takeY (i := 8) (some 50) (v := .pointer (some ⟨N13, 0, none⟩)) rfl rfl (by kernel_rfl) (by kernel_rfl) (by kernel_rfl) (fun _ _ _ h => h) (by rfl) (fun w' hS => by clear hS; go_simp) hS ?_
              simp only [Act.put, List.setIfInBounds_toArray, List.set_cons_zero, List.set_cons_succ]
              refine takeY (i := 9) (some 51) (v := .pointer (some ⟨N13, 1, none⟩)) rfl rfl (by kernel_rfl) (by kernel_rfl) (by kernel_rfl) (fun _ _ _ h => h) (by rfl) (fun w' hS => by clear hS; go_simp) hS ?_
              simp only [Act.put, List.setIfInBounds_toArray, List.set_cons_zero, List.set_cons_succ]
              refine takeY (i := 10) (some 52) (v := .int .i64 (kyPf x1.1).len) rfl rfl (by kernel_rfl) (by kernel_rfl) (by kernel_rfl) (fun _ _ _ h => h) (by rfl) (fun w' hS => by (have c9 : w'.cell? ⟨N13, 1, none⟩ = some (.int .i64 (kyPf x1.1).len) := (hS.1.cell 1).trans rfl; clear hS; go_simp)) hS ?_
              simp only [Act.put, List.setIfInBounds_toArray, List.set_cons_zero, List.set_cons_succ]
              refine takeY (i := 11) (some 53) (v := .pointer (some ⟨x, 0, none⟩)) rfl rfl (by kernel_rfl) (by kernel_rfl) (by kernel_rfl) (fun _ _ _ h => h) (by rfl) (fun w' hS => by clear hS; go_simp) hS ?_
              simp only [Act.put, List.setIfInBounds_toArray, List.set_cons_zero, List.set_cons_succ]
              refine takeY (i := 12) (some 54) (v := .pointer (some ⟨x, 0, none⟩)) rfl rfl (by kernel_rfl) (by kernel_rfl) (by kernel_rfl) (fun _ _ _ h => h) (by rfl) (fun w' hS => by clear hS; go_simp) hS ?_
              simp only [Act.put, List.setIfInBounds_toArray, List.set_cons_zero, List.set_cons_succ]
              refine takeY (i := 13) (some 55) (v := .pointer (some ⟨x, 0, none⟩)) rfl rfl (by kernel_rfl) (by kernel_rfl) (by kernel_rfl) (fun _ _ _ h => h) (by rfl) (fun w' hS => by clear hS; go_simp) hS ?_
              simp only [Act.put, List.setIfInBounds_toArray, List.set_cons_zero, List.set_cons_succ]
              refine takeY (i := 14) (some 56) (v := .slice (some ⟨bA, off, none⟩) m c) rfl rfl (by kernel_rfl) (by kernel_rfl) (by kernel_rfl) (fun _ _ _ h => h) (by rfl) (fun w' hS => by (have c9 : w'.cell? ⟨x, 0, none⟩ = some (.slice (some ⟨bA, off, none⟩) m c) := (hS.2.2.1.cell 0).trans rfl; clear hS; go_simp)) hS ?_
              simp only [Act.put, List.setIfInBounds_toArray, List.set_cons_zero, List.set_cons_succ]
              refine takeY (i := 15) (some 57) (v := .int .i64 (bI (some q))) rfl rfl (by kernel_rfl) (by kernel_rfl) (by kernel_rfl) (fun _ _ _ h => h) (by rfl) (fun w' hS => by clear hS; go_simp) hS ?_
              simp only [Act.put, List.setIfInBounds_toArray, List.set_cons_zero, List.set_cons_succ]
              refine takeY (i := 16) (some 58) (v := .pointer (some ⟨bA, off + q * 19, none⟩)) rfl rfl (by kernel_rfl) (by kernel_rfl) (by kernel_rfl) (fun _ _ _ h => h) (by rfl) (fun w' hS => by clear hS; exact index_i _ _ _ _ rfl bA off m c q rfl rfl HQM.out _) hS ?_
              simp only [Act.put, List.setIfInBounds_toArray, List.set_cons_zero, List.set_cons_succ]
              refine takeY (i := 17) (some 59) (v := .pointer (some ⟨bA, off + q * 19, none⟩)) rfl rfl (by kernel_rfl) (by kernel_rfl) (by kernel_rfl) (fun _ _ _ h => h) (by rfl) (fun w' hS => by clear hS; go_simp) hS ?_
              simp only [Act.put, List.setIfInBounds_toArray, List.set_cons_zero, List.set_cons_succ]
              refine takeY (i := 18) (some 60) (v := .pointer (some ⟨bA, off + q * 19 + 1, none⟩)) rfl rfl (by kernel_rfl) (by kernel_rfl) (by kernel_rfl) (fun _ _ _ h => h) (by rfl) (fun w' hS => by clear hS; go_simp) hS ?_
              simp only [Act.put, List.setIfInBounds_toArray, List.set_cons_zero, List.set_cons_succ]
              refine takeY (i := 19) (some 61) (v := .int .i64 (kyPf yq.1).len) rfl rfl (by kernel_rfl) (by kernel_rfl) (by kernel_rfl) (fun _ _ _ h => h) (by rfl) (fun w' hS => by (have c9 : w'.cell? ⟨bA, off + q * 19 + 1, none⟩ = some (.int .i64 (kyPf yq.1).len) := it_lr (it_read HR.out hS.2.2.2 HR.out.1 HQM.out HY.out); clear hS; go_simp)) hS ?_
              simp only [Act.put, List.setIfInBounds_toArray, List.set_cons_zero, List.set_cons_succ]
              refine takeY (i := 20) (some 62) (v := .bool true) rfl rfl (by kernel_rfl) (by kernel_rfl) (by kernel_rfl) (fun _ _ _ h => h) (by rfl) (fun w' hS => by clear hS; exact gtr_run _ _ _ _ rfl _ _ true (by have := HLL.out; exact decide_eq_true (Int.ofNat_lt.2 this)) rfl rfl _) hS ?_
              simp only [Act.put, List.setIfInBounds_toArray, List.set_cons_zero, List.set_cons_succ]
              refine takeY (i := 21) (some 63) (v := .bool true) rfl rfl (by kernel_rfl) (by kernel_rfl) (by kernel_rfl) (fun _ _ _ h => h) (by rfl) (fun w' hS => by clear hS; go_simp) hS ?_
              simp only [Act.put, List.setIfInBounds_toArray, List.set_cons_zero, List.set_cons_succ]
              refine takeY (i := 22) (some 64) (v := .bool true) rfl rfl (by kernel_rfl) (by kernel_rfl) (by kernel_rfl) (fun _ _ _ h => h) (by rfl) (fun w' hS => by clear hS; go_simp) hS ?_
              simp only [Act.put, List.setIfInBounds_toArray, List.set_cons_zero, List.set_cons_succ]
              clear hS
              refine wpAnyH_done (by kernel_rfl) ?_ _
              have HQ : Hid (Below BL wc W62) := Lib.hid (by rw [← HBL.out]; exact HQc.out)
              have HPn := Lib.hid (bs_more HP.out HY.out HX.out HPX.out HLL.out)
              go_wp2_with fail
              go_roundw
              case rel => exact ⟨j + 1, some j, by omega, by go_num, rfl, HQ, HPn⟩
              case measure => simp only [intOf]; omega
            · have HLL := Lib.hid hll
              clear hll
              have HQc : Hid (Below wc.heap.size wc w6) := Lib.hid (by rw [HBL.out]; exact HQ.out)
              clear HQ
              refine wp_region_held_drew (S := fun w' => Blk 96 w' N13 (itK x1) ∧ Blk 32 w' N10 (pfC (kyPf (whK false z))) ∧ Blk 30 w' x (#[.slice (some ⟨bA, off, none⟩) m c]) ∧ Below wc.heap.size wc w') (by kernel_rfl) ⟨K13.out, K10w.out, KXw.out, HQc.out.drew⟩ (fun hS => ?_)
              generalize hW61 : w6.drew = W61 at hS  ⊢
              clear hW61
              clear K13
              clear K10w
              clear KXw
              clear HQc
              have K13 := Lib.hid hS.1
              have K10w := Lib.hid hS.2.1
              have KXw := Lib.hid hS.2.2.1
              have HQc := Lib.hid hS.2.2.2
              refine takeY (i := 0) (some 42) (v := .pointer (some ⟨N13, 0, none⟩)) rfl rfl (by kernel_rfl) (by kernel_rfl) (by kernel_rfl) (fun _ _ _ h => h) (by rfl) (fun w' hS => by clear hS; go_simp) hS ?_
              simp only [Act.put, List.setIfInBounds_toArray, List.set_cons_zero, List.set_cons_succ]
              refine takeL (i := 1) (some 43) 32 (.tmp 42) N13 0 (pfC (kyPf x1.1)) _ rfl rfl (by kernel_rfl) (by kernel_rfl) (by kernel_rfl) (fun _ _ _ h => h) (by rfl) rfl rfl (fun w' hS => hS.1.itpf) Try.underlying32 rfl (hi_pv _ _ _) hS ?_
              simp only [Act.put, List.setIfInBounds_toArray, List.set_cons_zero, List.set_cons_succ]
              refine takeL (i := 2) (some 44) 32 (.tmp 10) N10 0 (pfC (kyPf (whK false z))) _ rfl rfl (by kernel_rfl) (by kernel_rfl) (by kernel_rfl) (fun _ _ _ h => h) (by rfl) rfl rfl (fun w' hS => hS.2.1.all) Try.underlying32 rfl (hi_pv _ _ _) hS ?_
              simp only [Act.put, List.setIfInBounds_toArray, List.set_cons_zero, List.set_cons_succ]
              refine takeC (i := 3) (some 45) 68 #[.agg (pfC (kyPf x1.1)), .agg (pfC (kyPf (whK false z)))] (.bool true) (R := fun w' => Below W61.heap.size W61 w') rfl rfl (by kernel_rfl) (by rfl) (by go_simp) (by have h9 := covK HKX.out HKW.out W61; rw [HCV.out] at h9; exact h9) (fun w' hb => ⟨hS.1.below hb hS.1.lt, hS.2.1.below hb hS.2.1.lt, hS.2.2.1.below hb hS.2.2.1.lt, hS.2.2.2.trans (hb.mono hS.2.2.2.size)⟩) (fun W62 hb1 hS2 => ?_)
              simp only [Act.put, List.setIfInBounds_toArray, List.set_cons_zero, List.set_cons_succ]
              clear K13
              clear K10w
              clear KXw
              clear HQc
              clear hS hb1
              have hS := hS2
              clear hS2
              have K13 := Lib.hid hS.1
              have K10w := Lib.hid hS.2.1
              have KXw := Lib.hid hS.2.2.1
              have HQc := Lib.hid hS.2.2.2
              refine takeY (i := 4) (some 46) (v := .bool true) rfl rfl (by kernel_rfl) (by kernel_rfl) (by kernel_rfl) (fun _ _ _ h => h) (by rfl) (fun w' hS => by clear hS; go_simp) hS ?_
              simp only [Act.put, List.setIfInBounds_toArray, List.set_cons_zero, List.set_cons_succ]
              refine takeY (i := 5) (some 47) (v := .int .i64 (bI (some q))) rfl rfl (by kernel_rfl) (by kernel_rfl) (by kernel_rfl) (fun _ _ _ h => h) (by rfl) (fun w' hS => by clear hS; go_simp) hS ?_
              simp only [Act.put, List.setIfInBounds_toArray, List.set_cons_zero, List.set_cons_succ]
              refine takeY (i := 6) (some 48) (v := .bool false) rfl rfl (by kernel_rfl) (by kernel_rfl) (by kernel_rfl) (fun _ _ _ h => h) (by rfl) (fun w' hS => by clear hS; exact lss0_run _ _ _ rfl _ false (by exact decide_eq_false (by show ¬ (q : Int) < 0; omega)) rfl rfl _) hS ?_
              simp only [Act.put, List.setIfInBounds_toArray, List.set_cons_zero, List.set_cons_succ]
              refine takeY (i := 7) (some 49) (v := .bool false) rfl rfl (by kernel_rfl) (by kernel_rfl) (by kernel_rfl) (fun _ _ _ h => h) (by rfl) (fun w' hS => by clear hS; go_simp) hS ?_
              simp only [Act.put, List.setIfInBounds_toArray, List.set_cons_zero, List.set_cons_succ]
              refine takeY (i := 8) (some 50) (v := .pointer (some ⟨N13, 0, none⟩)) rfl rfl (by kernel_rfl) (by kernel_rfl) (by kernel_rfl) (fun _ _ _ h => h) (by rfl) (fun w' hS => by clear hS; go_simp) hS ?_
              simp only [Act.put, List.setIfInBounds_toArray, List.set_cons_zero, List.set_cons_succ]
              refine takeY (i := 9) (some 51) (v := .pointer (some ⟨N13, 1, none⟩)) rfl rfl (by kernel_rfl) (by kernel_rfl) (by kernel_rfl) (fun _ _ _ h => h) (by rfl) (fun w' hS => by clear hS; go_simp) hS ?_
              simp only [Act.put, List.setIfInBounds_toArray, List.set_cons_zero, List.set_cons_succ]
              refine takeY (i := 10) (some 52) (v := .int .i64 (kyPf x1.1).len) rfl rfl (by kernel_rfl) (by kernel_rfl) (by kernel_rfl) (fun _ _ _ h => h) (by rfl) (fun w' hS => by (have c9 : w'.cell? ⟨N13, 1, none⟩ = some (.int .i64 (kyPf x1.1).len) := (hS.1.cell 1).trans rfl; clear hS; go_simp)) hS ?_
              simp only [Act.put, List.setIfInBounds_toArray, List.set_cons_zero, List.set_cons_succ]
              refine takeY (i := 11) (some 53) (v := .pointer (some ⟨x, 0, none⟩)) rfl rfl (by kernel_rfl) (by kernel_rfl) (by kernel_rfl) (fun _ _ _ h => h) (by rfl) (fun w' hS => by clear hS; go_simp) hS ?_
              simp only [Act.put, List.setIfInBounds_toArray, List.set_cons_zero, List.set_cons_succ]
              refine takeY (i := 12) (some 54) (v := .pointer (some ⟨x, 0, none⟩)) rfl rfl (by kernel_rfl) (by kernel_rfl) (by kernel_rfl) (fun _ _ _ h => h) (by rfl) (fun w' hS => by clear hS; go_simp) hS ?_
              simp only [Act.put, List.setIfInBounds_toArray, List.set_cons_zero, List.set_cons_succ]
              refine takeY (i := 13) (some 55) (v := .pointer (some ⟨x, 0, none⟩)) rfl rfl (by kernel_rfl) (by kernel_rfl) (by kernel_rfl) (fun _ _ _ h => h) (by rfl) (fun w' hS => by clear hS; go_simp) hS ?_
              simp only [Act.put, List.setIfInBounds_toArray, List.set_cons_zero, List.set_cons_succ]
              refine takeY (i := 14) (some 56) (v := .slice (some ⟨bA, off, none⟩) m c) rfl rfl (by kernel_rfl) (by kernel_rfl) (by kernel_rfl) (fun _ _ _ h => h) (by rfl) (fun w' hS => by (have c9 : w'.cell? ⟨x, 0, none⟩ = some (.slice (some ⟨bA, off, none⟩) m c) := (hS.2.2.1.cell 0).trans rfl; clear hS; go_simp)) hS ?_
              simp only [Act.put, List.setIfInBounds_toArray, List.set_cons_zero, List.set_cons_succ]
              refine takeY (i := 15) (some 57) (v := .int .i64 (bI (some q))) rfl rfl (by kernel_rfl) (by kernel_rfl) (by kernel_rfl) (fun _ _ _ h => h) (by rfl) (fun w' hS => by clear hS; go_simp) hS ?_
              simp only [Act.put, List.setIfInBounds_toArray, List.set_cons_zero, List.set_cons_succ]
              refine takeY (i := 16) (some 58) (v := .pointer (some ⟨bA, off + q * 19, none⟩)) rfl rfl (by kernel_rfl) (by kernel_rfl) (by kernel_rfl) (fun _ _ _ h => h) (by rfl) (fun w' hS => by clear hS; exact index_i _ _ _ _ rfl bA off m c q rfl rfl HQM.out _) hS ?_
              simp only [Act.put, List.setIfInBounds_toArray, List.set_cons_zero, List.set_cons_succ]
              refine takeY (i := 17) (some 59) (v := .pointer (some ⟨bA, off + q * 19, none⟩)) rfl rfl (by kernel_rfl) (by kernel_rfl) (by kernel_rfl) (fun _ _ _ h => h) (by rfl) (fun w' hS => by clear hS; go_simp) hS ?_
              simp only [Act.put, List.setIfInBounds_toArray, List.set_cons_zero, List.set_cons_succ]
              refine takeY (i := 18) (some 60) (v := .pointer (some ⟨bA, off + q * 19 + 1, none⟩)) rfl rfl (by kernel_rfl) (by kernel_rfl) (by kernel_rfl) (fun _ _ _ h => h) (by rfl) (fun w' hS => by clear hS; go_simp) hS ?_
              simp only [Act.put, List.setIfInBounds_toArray, List.set_cons_zero, List.set_cons_succ]
              refine takeY (i := 19) (some 61) (v := .int .i64 (kyPf yq.1).len) rfl rfl (by kernel_rfl) (by kernel_rfl) (by kernel_rfl) (fun _ _ _ h => h) (by rfl) (fun w' hS => by (have c9 : w'.cell? ⟨bA, off + q * 19 + 1, none⟩ = some (.int .i64 (kyPf yq.1).len) := it_lr (it_read HR.out hS.2.2.2 HR.out.1 HQM.out HY.out); clear hS; go_simp)) hS ?_
              simp only [Act.put, List.setIfInBounds_toArray, List.set_cons_zero, List.set_cons_succ]
              refine takeY (i := 20) (some 62) (v := .bool false) rfl rfl (by kernel_rfl) (by kernel_rfl) (by kernel_rfl) (fun _ _ _ h => h) (by rfl) (fun w' hS => by clear hS; exact gtr_run _ _ _ _ rfl _ _ false (by have := HLL.out; exact decide_eq_false (fun h => this (Int.ofNat_lt.1 h))) rfl rfl _) hS ?_
              simp only [Act.put, List.setIfInBounds_toArray, List.set_cons_zero, List.set_cons_succ]
              refine takeY (i := 21) (some 63) (v := .bool false) rfl rfl (by kernel_rfl) (by kernel_rfl) (by kernel_rfl) (fun _ _ _ h => h) (by rfl) (fun w' hS => by clear hS; go_simp) hS ?_
              simp only [Act.put, List.setIfInBounds_toArray, List.set_cons_zero, List.set_cons_succ]
              refine takeY (i := 22) (some 64) (v := .bool false) rfl rfl (by kernel_rfl) (by kernel_rfl) (by kernel_rfl) (fun _ _ _ h => h) (by rfl) (fun w' hS => by clear hS; go_simp) hS ?_
              simp only [Act.put, List.setIfInBounds_toArray, List.set_cons_zero, List.set_cons_succ]
              clear hS
              refine wpAnyH_done (by kernel_rfl) ?_ _
              have HQ : Hid (Below BL wc W62) := Lib.hid (by rw [← HBL.out]; exact HQc.out)
              have HPn := Lib.hid (bs_less HP.out HY.out HX.out HLL.out)
              go_wp2_with fail
              go_roundw
              case rel => exact ⟨j + 1, some q, by omega, by go_num, rfl, HQ, HPn⟩
              case measure => simp only [intOf]; omega
      · obtain rfl : m = j := by omega
        have HPm : Hid (BsP Pc D D.length bb) := Lib.hid (by rw [HM.out]; exact HP.out)
        have K6w := Lib.hid (K6.out.below HQ.out lt_6)
        clear HP
        cases bb with
        | none =>
          have e9 := bs_end_n HPm.out
          rw [show bI none = -1 from rfl]
          go_wp2_with (refine wpList_v (op := ⟨some 69, _, _, _, _, _⟩) rfl (.agg (pvC 0 0 Z0)) (build_pv0 _ _ rfl _) ?_; refine Hid.out ?_)
          refine Lib.hid ?_
          go_wp2_with (refine wpList_st rfl 32 (.tmp 6) (.tmp 69) rfl N2 0 rfl (.agg (pvC 0 0 Z0)) (pvC 0 0 Z0) rfl rfl info_pv (all_pv _ _ _) K6w.out (Nat.le_of_ble_eq_true rfl) (C' := pvC 0 0 Z0) (pv_over _ _ _ _ _ _) ?_; intro wz q1; refine Hid.out ?_)
          refine Lib.hid ?_
          have K6z := Lib.hid q1.1
          have HBZ : Hid (Below w.heap.size w wz) := Lib.hid ((HB.out.trans (HQ.out.mono le_BL)).trans (q1.2.1 _ (by omega)))
          clear q1
          go_wp2_with fail
          exact bodyPost_ret (results_4 rfl _ _ N2 (pvC 0 0 Z0) (.int .i64 0) (.bool false) (.int .i64 0) Try.underlying32 rfl info_pv rfl rfl rfl rfl K6z.out) rfl ⟨by rw [e9]; rfl, HBZ.out⟩
        | some q =>
          obtain ⟨yq, hy, e9⟩ := bs_end_s HPm.out
          have HY := Lib.hid hy
          have HE9 := Lib.hid e9
          have hqm : q < m := by rw [← HM.out]; exact (List.getElem?_eq_some_iff.1 hy).1
          have HQM := Lib.hid hqm
          obtain ⟨bA, off, rfl, hr⟩ := HRD.out.row (by omega)
          have HR := Lib.hid hr
          have HBA : Hid (bA < w.heap.size) := Lib.hid hr.1
          have hq0 : ¬ (q : Int) < 0 := by omega
          clear hy e9 hqm hr
          rw [show bI (some q) = (q : Int) from rfl]
          have HBq : Hid (Below w.heap.size w wr) := Lib.hid (HB.out.trans (HQ.out.mono le_BL))
          go_wp2_with fail
          have ne_6 : x ≠ N2 := by omega
          clear HQ
          have K6wd := Lib.hid K6w.out.drew
          clear K6w
          refine wp_region_held_drew (S := fun w' => Blk 30 w' x (#[.slice (some ⟨bA, off, none⟩) m c]) ∧ Below w.heap.size w w') (by kernel_rfl) ⟨KXw.out, HBq.out.drew⟩ (fun hS => ?_)
          generalize hW61 : wr.drew = W61 at hS K6wd ⊢
          clear hW61
          clear KXw
          clear HBq
          have K6w := K6wd
          clear K6wd
          have KXw := Lib.hid hS.1
          have HBq := Lib.hid hS.2
          refine takeY (i := 0) (some 70) (v := .pointer (some ⟨x, 0, none⟩)) rfl rfl (by kernel_rfl) (by kernel_rfl) (by kernel_rfl) (fun _ _ _ h => h) (by rfl) (fun w' hS => by clear hS; go_simp) hS ?_
          simp only [Act.put, List.setIfInBounds_toArray, List.set_cons_zero, List.set_cons_succ]
          refine takeY (i := 1) (some 71) (v := .pointer (some ⟨x, 0, none⟩)) rfl rfl (by kernel_rfl) (by kernel_rfl) (by kernel_rfl) (fun _ _ _ h => h) (by rfl) (fun w' hS => by clear hS; go_simp) hS ?_
          simp only [Act.put, List.setIfInBounds_toArray, List.set_cons_zero, List.set_cons_succ]
          refine takeY (i := 2) (some 72) (v := .pointer (some ⟨x, 0, none⟩)) rfl rfl (by kernel_rfl) (by kernel_rfl) (by kernel_rfl) (fun _ _ _ h => h) (by rfl) (fun w' hS => by clear hS; go_simp) hS ?_
          simp only [Act.put, List.setIfInBounds_toArray, List.set_cons_zero, List.set_cons_succ]
          refine takeY (i := 3) (some 73) (v := .slice (some ⟨bA, off, none⟩) m c) rfl rfl (by kernel_rfl) (by kernel_rfl) (by kernel_rfl) (fun _ _ _ h => h) (by rfl) (fun w' hS => by (have c9 : w'.cell? ⟨x, 0, none⟩ = some (.slice (some ⟨bA, off, none⟩) m c) := (hS.1.cell 0).trans rfl; clear hS; go_simp)) hS ?_
          simp only [Act.put, List.setIfInBounds_toArray, List.set_cons_zero, List.set_cons_succ]
          refine takeY (i := 4) (some 74) (v := .int .i64 (q : Int)) rfl rfl (by kernel_rfl) (by kernel_rfl) (by kernel_rfl) (fun _ _ _ h => h) (by rfl) (fun w' hS => by clear hS; go_simp) hS ?_
          simp only [Act.put, List.setIfInBounds_toArray, List.set_cons_zero, List.set_cons_succ]
          refine takeY (i := 5) (some 75) (v := .pointer (some ⟨bA, off + q * 19, none⟩)) rfl rfl (by kernel_rfl) (by kernel_rfl) (by kernel_rfl) (fun _ _ _ h => h) (by rfl) (fun w' hS => by clear hS; exact index_i _ _ _ _ rfl bA off m c q rfl rfl HQM.out _) hS ?_
          simp only [Act.put, List.setIfInBounds_toArray, List.set_cons_zero, List.set_cons_succ]
          refine takeY (i := 6) (some 76) (v := .pointer (some ⟨bA, off + q * 19, none⟩)) rfl rfl (by kernel_rfl) (by kernel_rfl) (by kernel_rfl) (fun _ _ _ h => h) (by rfl) (fun w' hS => by clear hS; go_simp) hS ?_
          simp only [Act.put, List.setIfInBounds_toArray, List.set_cons_zero, List.set_cons_succ]
          refine takeL (i := 7) (some 77) 32 (.tmp 76) bA (off + q * 19) (pfC (kyPf yq.1)) _ rfl rfl (by kernel_rfl) (by kernel_rfl) (by kernel_rfl) (fun _ _ _ h => h) (by rfl) rfl rfl (fun w' hS => it_pfr (it_read HR.out hS.2 HBA.out HQM.out HY.out)) Try.underlying32 rfl (hi_pv _ _ _) hS ?_
          simp only [Act.put, List.setIfInBounds_toArray, List.set_cons_zero, List.set_cons_succ]
          refine takeY (i := 8) (some 78) (v := .pointer (some ⟨x, 0, none⟩)) rfl rfl (by kernel_rfl) (by kernel_rfl) (by kernel_rfl) (fun _ _ _ h => h) (by rfl) (fun w' hS => by clear hS; go_simp) hS ?_
          simp only [Act.put, List.setIfInBounds_toArray, List.set_cons_zero, List.set_cons_succ]
          refine takeY (i := 9) (some 79) (v := .pointer (some ⟨x, 0, none⟩)) rfl rfl (by kernel_rfl) (by kernel_rfl) (by kernel_rfl) (fun _ _ _ h => h) (by rfl) (fun w' hS => by clear hS; go_simp) hS ?_
          simp only [Act.put, List.setIfInBounds_toArray, List.set_cons_zero, List.set_cons_succ]
          refine takeY (i := 10) (some 80) (v := .pointer (some ⟨x, 0, none⟩)) rfl rfl (by kernel_rfl) (by kernel_rfl) (by kernel_rfl) (fun _ _ _ h => h) (by rfl) (fun w' hS => by clear hS; go_simp) hS ?_
          simp only [Act.put, List.setIfInBounds_toArray, List.set_cons_zero, List.set_cons_succ]
          refine takeY (i := 11) (some 81) (v := .slice (some ⟨bA, off, none⟩) m c) rfl rfl (by kernel_rfl) (by kernel_rfl) (by kernel_rfl) (fun _ _ _ h => h) (by rfl) (fun w' hS => by (have c9 : w'.cell? ⟨x, 0, none⟩ = some (.slice (some ⟨bA, off, none⟩) m c) := (hS.1.cell 0).trans rfl; clear hS; go_simp)) hS ?_
          simp only [Act.put, List.setIfInBounds_toArray, List.set_cons_zero, List.set_cons_succ]
          refine takeY (i := 12) (some 82) (v := .int .i64 (q : Int)) rfl rfl (by kernel_rfl) (by kernel_rfl) (by kernel_rfl) (fun _ _ _ h => h) (by rfl) (fun w' hS => by clear hS; go_simp) hS ?_
          simp only [Act.put, List.setIfInBounds_toArray, List.set_cons_zero, List.set_cons_succ]
          refine takeY (i := 13) (some 83) (v := .pointer (some ⟨bA, off + q * 19, none⟩)) rfl rfl (by kernel_rfl) (by kernel_rfl) (by kernel_rfl) (fun _ _ _ h => h) (by rfl) (fun w' hS => by clear hS; exact index_i _ _ _ _ rfl bA off m c q rfl rfl HQM.out _) hS ?_
          simp only [Act.put, List.setIfInBounds_toArray, List.set_cons_zero, List.set_cons_succ]
          refine takeY (i := 14) (some 84) (v := .pointer (some ⟨bA, off + q * 19 + 18, none⟩)) rfl rfl (by kernel_rfl) (by kernel_rfl) (by kernel_rfl) (fun _ _ _ h => h) (by rfl) (fun w' hS => by clear hS; go_simp) hS ?_
          simp only [Act.put, List.setIfInBounds_toArray, List.set_cons_zero, List.set_cons_succ]
          refine takeY (i := 15) (some 85) (v := .int .i64 yq.2) rfl rfl (by kernel_rfl) (by kernel_rfl) (by kernel_rfl) (fun _ _ _ h => h) (by rfl) (fun w' hS => by (have c9 : w'.cell? ⟨bA, off + q * 19 + 18, none⟩ = some (.int .i64 yq.2) := it_vr (it_read HR.out hS.2 HBA.out HQM.out HY.out); clear hS; go_simp)) hS ?_
          simp only [Act.put, List.setIfInBounds_toArray, List.set_cons_zero, List.set_cons_succ]
          refine takeSt (i := 16) 32 (.tmp 6) (.tmp 77) N2 0 (.agg (pfC (kyPf yq.1))) (pfC (kyPf yq.1)) (pfC (kyPf yq.1)) rfl rfl (by kernel_rfl) (by rfl) rfl rfl rfl rfl info_pv (all_pv _ _ _) K6w.out (Nat.le_of_ble_eq_true rfl) (pv_over _ _ _ _ _ _) ?_
          intro W62 q1
          refine ⟨⟨KXw.out.far q1 (by omega), HBq.out.trans (q1.2.1 _ (by omega))⟩, ?_⟩
          simp only [Act.put, List.setIfInBounds_toArray, List.set_cons_zero, List.set_cons_succ]
          have K6wn : Hid (Blk 32 W62 N2 (pfC (kyPf yq.1))) := Lib.hid q1.1
          clear K6w
          have K6w := K6wn
          clear K6wn
          have KXwn := Lib.hid (KXw.out.far q1 (by omega))
          clear KXw
          have KXw := KXwn
          clear KXwn
          have HBqn := Lib.hid (HBq.out.trans (q1.2.1 _ (by omega)))
          clear HBq
          have HBq := HBqn
          clear HBqn
          clear q1 hS
          have hS := (And.intro KXw.out HBq.out)
          refine takeY (i := 17) (some 7) (v := .int .i64 yq.2) rfl rfl (by kernel_rfl) (by kernel_rfl) (by kernel_rfl) (fun _ _ _ h => h) (by rfl) (fun w' hS => by clear hS; go_simp) hS ?_
          simp only [Act.put, List.setIfInBounds_toArray, List.set_cons_zero, List.set_cons_succ]
          refine takeY (i := 18) (some 8) (v := .bool true) rfl rfl (by kernel_rfl) (by kernel_rfl) (by kernel_rfl) (fun _ _ _ h => h) (by rfl) (fun w' hS => by clear hS; go_simp) hS ?_
          simp only [Act.put, List.setIfInBounds_toArray, List.set_cons_zero, List.set_cons_succ]
          refine takeY (i := 19) (some 9) (v := .int .i64 0) rfl rfl (by kernel_rfl) (by kernel_rfl) (by kernel_rfl) (fun _ _ _ h => h) (by rfl) (fun w' hS => by clear hS; go_simp) hS ?_
          simp only [Act.put, List.setIfInBounds_toArray, List.set_cons_zero, List.set_cons_succ]
          clear hS
          refine wpAnyH_done (by kernel_rfl) ?_ _
          go_wp2_with fail
          exact bodyPost_ret (results_4 rfl _ _ N2 (pfC (kyPf yq.1)) (.int .i64 yq.2) (.bool true) (.int .i64 0) Try.underlying32 rfl info_pv rfl rfl rfl rfl K6w.out) rfl ⟨by rw [HE9.out]; rfl, HBq.out⟩
set_option maxHeartbeats 16000000 in
set_option maxRecDepth 100000 in
theorem docFind_6 (x : Nat) (D : List It) (z : Nat → Int) (hz : Bytes z) (w : World) (h : DocAt w x D) (hl : D.length ≤ 1000) : Calls Try.prog 50 #[.pointer (some ⟨x, 0, none⟩), .int .u8 6, .agg (agC z)] w fun e w' => e = .returned (faV (fqR true (bst (cvQ (whK true z)) none D))) ∧ Below w.heap.size w w' := by
  obtain ⟨A, c, hs, hc1, hc2, hc3, hrd, _⟩ := h.ex
  have HRD := Lib.hid hrd
  have KX := Lib.hid hs
  have HD := Lib.hid h.ok
  have HZ := Lib.hid hz
  have HKW := Lib.hid (whK_ok hz true)
  obtain ⟨m, hm⟩ : ∃ m, D.length = m := ⟨_, rfl⟩
  have HM := Lib.hid hm
  rw [hm] at HRD KX hl
  have hmI : (m : Int) ≤ 9223372036854775807 := by omega
  have HL := Lib.hid hl
  clear hs hrd h hl hm hc1 hc2 hc3 hz
  obtain ⟨Pc, hPc⟩ : ∃ P, cvQ (whK true z) = P := ⟨_, rfl⟩
  have HPC := Lib.hid hPc
  rw [hPc]
  clear hPc
  go_enter Try.func50, Try.ntmps50
  have HB := Lib.hid (Below.refl w.heap.size w)
  obtain ⟨N1, hN1⟩ : ∃ N, w.heap.size = N := ⟨_, rfl⟩
  have HN1 := Lib.hid hN1
  clear hN1
  go_wp2_with (refine wpList_box (op := ⟨some 5, _, _, _, _, _⟩) rfl 23 (.tmp 2) rfl (agC z) rfl N1 HN1.out ?_; intro w1 k1 b1 s1; refine Hid.out ?_)
  refine Lib.hid ?_
  have K5 := Lib.hid k1
  clear k1
  have lt_x_N1 : x < N1 := by rw [← HN1.out]; exact KX.out.lt
  have le_HB_N1 : w.heap.size ≤ N1 := by rw [← HN1.out]; exact HB.out.size
  have KXn := Lib.hid (KX.out.below b1 KX.out.lt)
  clear KX
  have KX := KXn
  clear KXn
  have HBn := Lib.hid (HB.out.trans (b1.mono HB.out.size))
  clear HB
  have HB := HBn
  clear HBn
  clear b1 HN1
  obtain ⟨N2, hN2⟩ : ∃ N, w1.heap.size = N := ⟨_, rfl⟩
  have HN2 := Lib.hid hN2
  clear hN2
  go_wp2_with (refine wpList_new (op := ⟨some 6, _, _, _, _, _⟩) rfl 32 rfl (pvC 0 0 Z0) zero_pvT N2 HN2.out ?_; intro w2 k1 b1 s1; refine Hid.out ?_)
  refine Lib.hid ?_
  have K6 := Lib.hid k1
  clear k1
  have lt_x_N2 : x < N2 := by rw [← HN2.out]; exact KX.out.lt
  have lt_N1_N2 : N1 < N2 := by rw [← HN2.out]; exact K5.out.lt
  have le_HB_N2 : w.heap.size ≤ N2 := by rw [← HN2.out]; exact HB.out.size
  have KXn := Lib.hid (KX.out.below b1 KX.out.lt)
  clear KX
  have KX := KXn
  clear KXn
  have K5n := Lib.hid (K5.out.below b1 K5.out.lt)
  clear K5
  have K5 := K5n
  clear K5n
  have HBn := Lib.hid (HB.out.trans (b1.mono HB.out.size))
  clear HB
  have HB := HBn
  clear HBn
  clear b1 HN2
  go_wp2_with fail
  go_cut [10] (fun s1 wc => ∃ N, s1 = .pointer (some ⟨N, 0, none⟩) ∧ w2.heap.size ≤ N ∧ Hid (Blk 32 wc N (pfC (kyPf (whK true z)))) ∧ Hid (Below w2.heap.size w2 wc))
  case first =>
    have HBW := Lib.hid (Below.refl w2.heap.size w2)
    refine wp_region_held_drew (S := fun w' => Blk 23 w' N1 (agC z) ∧ Below w2.heap.size w2 w') (by kernel_rfl) ⟨K5.out, HBW.out.drew⟩ (fun hS => ?_)
    generalize hW41 : w2.drew = W41 at hS  ⊢
    clear hW41
    clear K5
    clear HBW
    have K5 := Lib.hid hS.1
    have HBW := Lib.hid hS.2
    refine takeY (i := 0) (some 24) (v := .int .u8 6) rfl rfl (by kernel_rfl) (by kernel_rfl) (by kernel_rfl) (fun _ _ _ h => h) (by rfl) (fun w' hS => by clear hS; go_simp) hS ?_
    simp only [Act.put, List.setIfInBounds_toArray, List.set_cons_zero, List.set_cons_succ]
    refine takeY (i := 1) (some 25) (v := .int .u8 6) rfl rfl (by kernel_rfl) (by kernel_rfl) (by kernel_rfl) (fun _ _ _ h => h) (by rfl) (fun w' hS => by clear hS; go_simp) hS ?_
    simp only [Act.put, List.setIfInBounds_toArray, List.set_cons_zero, List.set_cons_succ]
    refine takeL (i := 3) (some 27) 23 (.tmp 5) N1 0 (agC z) _ rfl rfl (by kernel_rfl) (by kernel_rfl) (by kernel_rfl) (fun _ _ _ h => h) (by rfl) rfl rfl (fun w' hS => hS.1.all) Try.underlying23 rfl (hi_ag z) hS ?_
    simp only [Act.put, List.setIfInBounds_toArray, List.set_cons_zero, List.set_cons_succ]
    refine takeY (i := 5) (some 29) (v := .int .u8 6) rfl rfl (by kernel_rfl) (by kernel_rfl) (by kernel_rfl) (fun _ _ _ h => h) (by rfl) (fun w' hS => by clear hS; go_simp) hS ?_
    simp only [Act.put, List.setIfInBounds_toArray, List.set_cons_zero, List.set_cons_succ]
    obtain ⟨M0, hM0⟩ : ∃ N, W41.heap.size = N := ⟨_, rfl⟩
    have HM0 := Lib.hid hM0
    clear hM0
    refine wpAnyH_ready (show Region.ready _ _ _ = [2, 8] from by kernel_rfl) (by simp) (consC (i := 2) (some 26) 25 #[.int .u8 6] (.int .i64 (lenB true : Int)) (R := fun w' => Below W41.heap.size W41 w') rfl rfl (by rfl) (by go_simp) (bits_pl true _) (fun w' hb => ⟨hS.1.below hb hS.1.lt, hS.2.trans (hb.mono hS.2.size)⟩) ?_ (consMk (i := 8) (some 10) 32 (pvC 0 0 Z0) rfl rfl (by rfl) rfl zero_pvT M0 HM0.out ?_ AllReadyH.nil))
    · skip
      clear HM0
      intro W42 hb1 hS2
      simp only [Act.put, List.setIfInBounds_toArray, List.set_cons_zero, List.set_cons_succ]
      clear K5
      clear HBW
      clear hS
      have hS := hS2
      clear hS2
      have K5 := Lib.hid hS.1
      have HBW := Lib.hid hS.2
      refine takeY (i := 4) (some 28) (v := .agg (pvC (famB true) (lenB true : Nat) z)) rfl rfl (by kernel_rfl) (by kernel_rfl) (by kernel_rfl) (fun _ _ _ h => h) (by rfl) (fun w' hS => by clear hS; exact build_pv _ _ _ _ _ rfl (famB true) (lenB true : Nat) z rfl rfl rfl _) hS ?_
      simp only [Act.put, List.setIfInBounds_toArray, List.set_cons_zero, List.set_cons_succ]
      clear hb1
      obtain ⟨M1, hM1⟩ : ∃ N, W42.heap.size = N := ⟨_, rfl⟩
      have HM1 := Lib.hid hM1
      clear hM1
      refine wpAnyH_ready (show Region.ready _ _ _ = [6, 8] from by kernel_rfl) (by simp) (consC (i := 6) (some 30) 25 #[.int .u8 6] (.int .i64 (lenB true : Int)) (R := fun w' => Below W42.heap.size W42 w') rfl rfl (by rfl) (by go_simp) (bits_pl true _) (fun w' hb => ⟨hS.1.below hb hS.1.lt, hS.2.trans (hb.mono hS.2.size)⟩) ?_ (consMk (i := 8) (some 10) 32 (pvC 0 0 Z0) rfl rfl (by rfl) rfl zero_pvT M1 HM1.out ?_ AllReadyH.nil))
      · skip
        clear HM1
        intro W43 hb1 hS2
        simp only [Act.put, List.setIfInBounds_toArray, List.set_cons_zero, List.set_cons_succ]
        clear K5
        clear HBW
        clear hS
        have hS := hS2
        clear hS2
        have K5 := Lib.hid hS.1
        have HBW := Lib.hid hS.2
        clear hb1
        obtain ⟨M2, hM2⟩ : ∃ N, W43.heap.size = N := ⟨_, rfl⟩
        have HM2 := Lib.hid hM2
        clear hM2
        refine wpAnyH_ready (show Region.ready _ _ _ = [7, 8] from by kernel_rfl) (by simp) (consC (i := 7) (some 31) 67 #[.agg (pvC (famB true) (lenB true : Nat) z), .int .i64 (lenB true : Int)] (.agg (pfC (kyPf (whK true z)))) (R := fun w' => Below W43.heap.size W43 w') rfl rfl (by rfl) (by go_simp) (first_wh true z HZ.out _) (fun w' hb => ⟨hS.1.below hb hS.1.lt, hS.2.trans (hb.mono hS.2.size)⟩) ?_ (consMk (i := 8) (some 10) 32 (pvC 0 0 Z0) rfl rfl (by rfl) rfl zero_pvT M2 HM2.out ?_ AllReadyH.nil))
        · skip
          clear HM2
          intro W44 hb1 hS2
          simp only [Act.put, List.setIfInBounds_toArray, List.set_cons_zero, List.set_cons_succ]
          clear K5
          clear HBW
          clear hS
          have hS := hS2
          clear hS2
          have K5 := Lib.hid hS.1
          have HBW := Lib.hid hS.2
          clear hb1
          obtain ⟨M3, hM3⟩ : ∃ N, W44.heap.size = N := ⟨_, rfl⟩
          have HM3 := Lib.hid hM3
          clear hM3
          refine takeMk (i := 8) (some 10) 32 (pvC 0 0 Z0) rfl rfl (by kernel_rfl) (by rfl) rfl zero_pvT M3 HM3.out ?_
          intro W45 k1 b1 s1
          refine ⟨⟨hS.1.below b1 hS.1.lt, hS.2.trans (b1.mono hS.2.size)⟩, ?_⟩
          simp only [Act.put, List.setIfInBounds_toArray, List.set_cons_zero, List.set_cons_succ]
          have K10 := Lib.hid k1
          clear k1
          have lt_N1_M3 : N1 < M3 := by rw [← HM3.out]; exact K5.out.lt
          have le_HBW_M3 : w2.heap.size ≤ M3 := by rw [← HM3.out]; exact HBW.out.size
          have K5n := Lib.hid (K5.out.below b1 K5.out.lt)
          clear K5
          have K5 := K5n
          clear K5n
          have HBWn := Lib.hid (HBW.out.trans (b1.mono HBW.out.size))
          clear HBW
          have HBW := HBWn
          clear HBWn
          clear b1 HM3 hS
          have hS := (And.intro K5.out HBW.out)
          refine takeSt (i := 9) 32 (.tmp 10) (.tmp 31) M3 0 (.agg (pfC (kyPf (whK true z)))) (pfC (kyPf (whK true z))) (pfC (kyPf (whK true z))) rfl rfl (by kernel_rfl) (by rfl) rfl rfl rfl rfl info_pv (all_pv _ _ _) K10.out (Nat.le_of_ble_eq_true rfl) (pv_over _ _ _ _ _ _) ?_
          intro W46 q1
          refine ⟨⟨K5.out.far q1 (by omega), HBW.out.trans (q1.2.1 _ (by omega))⟩, ?_⟩
          simp only [Act.put, List.setIfInBounds_toArray, List.set_cons_zero, List.set_cons_succ]
          have K10n : Hid (Blk 32 W46 M3 (pfC (kyPf (whK true z)))) := Lib.hid q1.1
          clear K10
          have K10 := K10n
          clear K10n
          have K5n := Lib.hid (K5.out.far q1 (by omega))
          clear K5
          have K5 := K5n
          clear K5n
          have HBWn := Lib.hid (HBW.out.trans (q1.2.1 _ (by omega)))
          clear HBW
          have HBW := HBWn
          clear HBWn
          clear q1 hS
          have hS := (And.intro K5.out HBW.out)
          clear hS
          refine wpAnyH_done (by kernel_rfl) ?_ _
          go_wp2_with fail
          go_meet
          case rel => exact ⟨M3, rfl, le_HBW_M3, K10, HBW⟩
        · skip
          intro W45 k1 b1 s1
          refine ⟨⟨hS.1.below b1 hS.1.lt, hS.2.trans (b1.mono hS.2.size)⟩, ?_⟩
          simp only [Act.put, List.setIfInBounds_toArray, List.set_cons_zero, List.set_cons_succ]
          have K10 := Lib.hid k1
          clear k1
          have lt_N1_M2 : N1 < M2 := by rw [← HM2.out]; exact K5.out.lt
          have le_HBW_M2 : w2.heap.size ≤ M2 := by rw [← HM2.out]; exact HBW.out.size
          have K5n := Lib.hid (K5.out.below b1 K5.out.lt)
          clear K5
          have K5 := K5n
          clear K5n
          have HBWn := Lib.hid (HBW.out.trans (b1.mono HBW.out.size))
          clear HBW
          have HBW := HBWn
          clear HBWn
          clear b1 HM2 hS
          have hS := (And.intro K5.out HBW.out)
          refine takeC (i := 7) (some 31) 67 #[.agg (pvC (famB true) (lenB true : Nat) z), .int .i64 (lenB true : Int)] (.agg (pfC (kyPf (whK true z)))) (R := fun w' => Below W45.heap.size W45 w') rfl rfl (by kernel_rfl) (by rfl) (by go_simp) (first_wh true z HZ.out _) (fun w' hb => ⟨hS.1.below hb hS.1.lt, hS.2.trans (hb.mono hS.2.size)⟩) ?_
          intro W46 hb1 hS2
          simp only [Act.put, List.setIfInBounds_toArray, List.set_cons_zero, List.set_cons_succ]
          have K10n := Lib.hid (K10.out.below hb1 K10.out.lt)
          clear K10
          have K10 := K10n
          clear K10n
          clear K5
          clear HBW
          clear hS
          have hS := hS2
          clear hS2
          have K5 := Lib.hid hS.1
          have HBW := Lib.hid hS.2
          clear hb1
          refine takeSt (i := 9) 32 (.tmp 10) (.tmp 31) M2 0 (.agg (pfC (kyPf (whK true z)))) (pfC (kyPf (whK true z))) (pfC (kyPf (whK true z))) rfl rfl (by kernel_rfl) (by rfl) rfl rfl rfl rfl info_pv (all_pv _ _ _) K10.out (Nat.le_of_ble_eq_true rfl) (pv_over _ _ _ _ _ _) ?_
          intro W47 q1
          refine ⟨⟨K5.out.far q1 (by omega), HBW.out.trans (q1.2.1 _ (by omega))⟩, ?_⟩
          simp only [Act.put, List.setIfInBounds_toArray, List.set_cons_zero, List.set_cons_succ]
          have K10n : Hid (Blk 32 W47 M2 (pfC (kyPf (whK true z)))) := Lib.hid q1.1
          clear K10
          have K10 := K10n
          clear K10n
          have K5n := Lib.hid (K5.out.far q1 (by omega))
          clear K5
          have K5 := K5n
          clear K5n
          have HBWn := Lib.hid (HBW.out.trans (q1.2.1 _ (by omega)))
          clear HBW
          have HBW := HBWn
          clear HBWn
          clear q1 hS
          have hS := (And.intro K5.out HBW.out)
          clear hS
          refine wpAnyH_done (by kernel_rfl) ?_ _
          go_wp2_with fail
          go_meet
          case rel => exact ⟨M2, rfl, le_HBW_M2, K10, HBW⟩
      · skip
        intro W44 k1 b1 s1
        refine ⟨⟨hS.1.below b1 hS.1.lt, hS.2.trans (b1.mono hS.2.size)⟩, ?_⟩
        simp only [Act.put, List.setIfInBounds_toArray, List.set_cons_zero, List.set_cons_succ]
        have K10 := Lib.hid k1
        clear k1
        have lt_N1_M1 : N1 < M1 := by rw [← HM1.out]; exact K5.out.lt
        have le_HBW_M1 : w2.heap.size ≤ M1 := by rw [← HM1.out]; exact HBW.out.size
        have K5n := Lib.hid (K5.out.below b1 K5.out.lt)
        clear K5
        have K5 := K5n
        clear K5n
        have HBWn := Lib.hid (HBW.out.trans (b1.mono HBW.out.size))
        clear HBW
        have HBW := HBWn
        clear HBWn
        clear b1 HM1 hS
        have hS := (And.intro K5.out HBW.out)
        refine takeC (i := 6) (some 30) 25 #[.int .u8 6] (.int .i64 (lenB true : Int)) (R := fun w' => Below W44.heap.size W44 w') rfl rfl (by kernel_rfl) (by rfl) (by go_simp) (bits_pl true _) (fun w' hb => ⟨hS.1.below hb hS.1.lt, hS.2.trans (hb.mono hS.2.size)⟩) ?_
        intro W45 hb1 hS2
        simp only [Act.put, List.setIfInBounds_toArray, List.set_cons_zero, List.set_cons_succ]
        have K10n := Lib.hid (K10.out.below hb1 K10.out.lt)
        clear K10
        have K10 := K10n
        clear K10n
        clear K5
        clear HBW
        clear hS
        have hS := hS2
        clear hS2
        have K5 := Lib.hid hS.1
        have HBW := Lib.hid hS.2
        clear hb1
        refine takeC (i := 7) (some 31) 67 #[.agg (pvC (famB true) (lenB true : Nat) z), .int .i64 (lenB true : Int)] (.agg (pfC (kyPf (whK true z)))) (R := fun w' => Below W45.heap.size W45 w') rfl rfl (by kernel_rfl) (by rfl) (by go_simp) (first_wh true z HZ.out _) (fun w' hb => ⟨hS.1.below hb hS.1.lt, hS.2.trans (hb.mono hS.2.size)⟩) ?_
        intro W46 hb1 hS2
        simp only [Act.put, List.setIfInBounds_toArray, List.set_cons_zero, List.set_cons_succ]
        have K10n := Lib.hid (K10.out.below hb1 K10.out.lt)
        clear K10
        have K10 := K10n
        clear K10n
        clear K5
        clear HBW
        clear hS
        have hS := hS2
        clear hS2
        have K5 := Lib.hid hS.1
        have HBW := Lib.hid hS.2
        clear hb1
        refine takeSt (i := 9) 32 (.tmp 10) (.tmp 31) M1 0 (.agg (pfC (kyPf (whK true z)))) (pfC (kyPf (whK true z))) (pfC (kyPf (whK true z))) rfl rfl (by kernel_rfl) (by rfl) rfl rfl rfl rfl info_pv (all_pv _ _ _) K10.out (Nat.le_of_ble_eq_true rfl) (pv_over _ _ _ _ _ _) ?_
        intro W47 q1
        refine ⟨⟨K5.out.far q1 (by omega), HBW.out.trans (q1.2.1 _ (by omega))⟩, ?_⟩
        simp only [Act.put, List.setIfInBounds_toArray, List.set_cons_zero, List.set_cons_succ]
        have K10n : Hid (Blk 32 W47 M1 (pfC (kyPf (whK true z)))) := Lib.hid q1.1
        clear K10
        have K10 := K10n
        clear K10n
        have K5n := Lib.hid (K5.out.far q1 (by omega))
        clear K5
        have K5 := K5n
        clear K5n
        have HBWn := Lib.hid (HBW.out.trans (q1.2.1 _ (by omega)))
        clear HBW
        have HBW := HBWn
        clear HBWn
        clear q1 hS
        have hS := (And.intro K5.out HBW.out)
        clear hS
        refine wpAnyH_done (by kernel_rfl) ?_ _
        go_wp2_with fail
        go_meet
        case rel => exact ⟨M1, rfl, le_HBW_M1, K10, HBW⟩
    · skip
      intro W43 k1 b1 s1
      refine ⟨⟨hS.1.below b1 hS.1.lt, hS.2.trans (b1.mono hS.2.size)⟩, ?_⟩
      simp only [Act.put, List.setIfInBounds_toArray, List.set_cons_zero, List.set_cons_succ]
      have K10 := Lib.hid k1
      clear k1
      have lt_N1_M0 : N1 < M0 := by rw [← HM0.out]; exact K5.out.lt
      have le_HBW_M0 : w2.heap.size ≤ M0 := by rw [← HM0.out]; exact HBW.out.size
      have K5n := Lib.hid (K5.out.below b1 K5.out.lt)
      clear K5
      have K5 := K5n
      clear K5n
      have HBWn := Lib.hid (HBW.out.trans (b1.mono HBW.out.size))
      clear HBW
      have HBW := HBWn
      clear HBWn
      clear b1 HM0 hS
      have hS := (And.intro K5.out HBW.out)
      refine takeC (i := 2) (some 26) 25 #[.int .u8 6] (.int .i64 (lenB true : Int)) (R := fun w' => Below W43.heap.size W43 w') rfl rfl (by kernel_rfl) (by rfl) (by go_simp) (bits_pl true _) (fun w' hb => ⟨hS.1.below hb hS.1.lt, hS.2.trans (hb.mono hS.2.size)⟩) ?_
      intro W44 hb1 hS2
      simp only [Act.put, List.setIfInBounds_toArray, List.set_cons_zero, List.set_cons_succ]
      have K10n := Lib.hid (K10.out.below hb1 K10.out.lt)
      clear K10
      have K10 := K10n
      clear K10n
      clear K5
      clear HBW
      clear hS
      have hS := hS2
      clear hS2
      have K5 := Lib.hid hS.1
      have HBW := Lib.hid hS.2
      refine takeY (i := 4) (some 28) (v := .agg (pvC (famB true) (lenB true : Nat) z)) rfl rfl (by kernel_rfl) (by kernel_rfl) (by kernel_rfl) (fun _ _ _ h => h) (by rfl) (fun w' hS => by clear hS; exact build_pv _ _ _ _ _ rfl (famB true) (lenB true : Nat) z rfl rfl rfl _) hS ?_
      simp only [Act.put, List.setIfInBounds_toArray, List.set_cons_zero, List.set_cons_succ]
      clear hb1
      refine takeC (i := 6) (some 30) 25 #[.int .u8 6] (.int .i64 (lenB true : Int)) (R := fun w' => Below W44.heap.size W44 w') rfl rfl (by kernel_rfl) (by rfl) (by go_simp) (bits_pl true _) (fun w' hb => ⟨hS.1.below hb hS.1.lt, hS.2.trans (hb.mono hS.2.size)⟩) ?_
      intro W45 hb1 hS2
      simp only [Act.put, List.setIfInBounds_toArray, List.set_cons_zero, List.set_cons_succ]
      have K10n := Lib.hid (K10.out.below hb1 K10.out.lt)
      clear K10
      have K10 := K10n
      clear K10n
      clear K5
      clear HBW
      clear hS
      have hS := hS2
      clear hS2
      have K5 := Lib.hid hS.1
      have HBW := Lib.hid hS.2
      clear hb1
      refine takeC (i := 7) (some 31) 67 #[.agg (pvC (famB true) (lenB true : Nat) z), .int .i64 (lenB true : Int)] (.agg (pfC (kyPf (whK true z)))) (R := fun w' => Below W45.heap.size W45 w') rfl rfl (by kernel_rfl) (by rfl) (by go_simp) (first_wh true z HZ.out _) (fun w' hb => ⟨hS.1.below hb hS.1.lt, hS.2.trans (hb.mono hS.2.size)⟩) ?_
      intro W46 hb1 hS2
      simp only [Act.put, List.setIfInBounds_toArray, List.set_cons_zero, List.set_cons_succ]
      have K10n := Lib.hid (K10.out.below hb1 K10.out.lt)
      clear K10
      have K10 := K10n
      clear K10n
      clear K5
      clear HBW
      clear hS
      have hS := hS2
      clear hS2
      have K5 := Lib.hid hS.1
      have HBW := Lib.hid hS.2
      clear hb1
      refine takeSt (i := 9) 32 (.tmp 10) (.tmp 31) M0 0 (.agg (pfC (kyPf (whK true z)))) (pfC (kyPf (whK true z))) (pfC (kyPf (whK true z))) rfl rfl (by kernel_rfl) (by rfl) rfl rfl rfl rfl info_pv (all_pv _ _ _) K10.out (Nat.le_of_ble_eq_true rfl) (pv_over _ _ _ _ _ _) ?_
      intro W47 q1
      refine ⟨⟨K5.out.far q1 (by omega), HBW.out.trans (q1.2.1 _ (by omega))⟩, ?_⟩
      simp only [Act.put, List.setIfInBounds_toArray, List.set_cons_zero, List.set_cons_succ]
      have K10n : Hid (Blk 32 W47 M0 (pfC (kyPf (whK true z)))) := Lib.hid q1.1
      clear K10
      have K10 := K10n
      clear K10n
      have K5n := Lib.hid (K5.out.far q1 (by omega))
      clear K5
      have K5 := K5n
      clear K5n
      have HBWn := Lib.hid (HBW.out.trans (q1.2.1 _ (by omega)))
      clear HBW
      have HBW := HBWn
      clear HBWn
      clear q1 hS
      have hS := (And.intro K5.out HBW.out)
      clear hS
      refine wpAnyH_done (by kernel_rfl) ?_ _
      go_wp2_with fail
      go_meet
      case rel => exact ⟨M0, rfl, le_HBW_M0, K10, HBW⟩
  case rest =>
    obtain ⟨N10, rfl, hN10, k10, hbc⟩ := hcut
    have b1 := hbc.out
    have KXn := Lib.hid (KX.out.below b1 KX.out.lt)
    clear KX
    have KX := KXn
    clear KXn
    have K5n := Lib.hid (K5.out.below b1 K5.out.lt)
    clear K5
    have K5 := K5n
    clear K5n
    have K6n := Lib.hid (K6.out.below b1 K6.out.lt)
    clear K6
    have K6 := K6n
    clear K6n
    have HBn := Lib.hid (HB.out.trans (b1.mono HB.out.size))
    clear HB
    have HB := HBn
    clear HBn
    clear b1 hbc
    have K10 := Lib.hid k10.out
    clear k10
    have c0 : wc.cell? ⟨x, 0, none⟩ = some (.slice A m c) := (KX.out.cell 0).trans rfl
    go_wp2_with fail
    clear c0
    obtain ⟨BL, hBL⟩ : ∃ N, wc.heap.size = N := ⟨_, rfl⟩
    have HBL := Lib.hid hBL
    have le_BL : w.heap.size ≤ BL := by rw [← hBL]; exact HB.out.size
    have lt_x : x < BL := by rw [← hBL]; exact KX.out.lt
    have lt_10 : N10 < BL := by rw [← hBL]; exact K10.out.lt
    have lt_6 : N2 < BL := by rw [← hBL]; exact K6.out.lt
    have HR1 := Lib.hid (HRD.out.below HB.out rfl)
    clear hBL
    go_loopw [11, 37] (fun b t wr => ∃ (j : Nat) (bb : Option Nat), j ≤ m ∧ t = .int .i64 j ∧ b = .int .i64 (bI bb) ∧ Hid (Below BL wc wr) ∧ Hid (BsP Pc D j bb)) (fun _ t _ => m - (intOf t).toNat)
    case atStart => exact ⟨0, none, by omega, rfl, rfl, Lib.hid (Below.refl _ _), Lib.hid bs_start⟩
    case round =>
      obtain ⟨j, bb, hj, rfl, rfl, HQ, HP⟩ := hrel
      have KXw := Lib.hid (KX.out.below HQ.out lt_x)
      have K10w := Lib.hid (K10.out.below HQ.out lt_10)
      by_cases hlt : j < m
      · have hki : (j : Int) < (m : Int) := by omega
        obtain ⟨bA, off, rfl, hr⟩ := HR1.out.row (by omega)
        have HR := Lib.hid hr
        have HBA : Hid (bA < BL) := Lib.hid (by have := hr.1; rw [HBL.out] at this; exact this)
        obtain ⟨x1, hx⟩ : ∃ r, D[j]? = some r := ⟨_, List.getElem?_eq_getElem (by rw [HM.out]; exact hlt)⟩
        have HX := Lib.hid hx
        have h1 : Hid (wr.rangeAt bA (off + j * 19) (itK x1).toList) := Lib.hid (it_read hr HQ.out HBA.out hlt hx)
        clear hr hx
        have HKX : Hid (KOk x1.1) := Lib.hid (HD.out x1 (List.mem_of_getElem? HX.out))
        go_wp2_with (refine wpList_ld (op := ⟨some 41, _, _, _, _, _⟩) (by rfl) 96 (.tmp 40) rfl bA (off + j * 19) rfl (itK x1) _ h1.out Try.underlying96 rfl info_it ?_; refine Hid.out ?_)
        refine Lib.hid ?_
        clear h1
        obtain ⟨N13, hN13⟩ : ∃ N, wr.heap.size = N := ⟨_, rfl⟩
        have HN13 := Lib.hid hN13
        have le_13 : BL ≤ N13 := by rw [← hN13]; have := HQ.out.size; rw [HBL.out] at this; exact this
        clear hN13
        go_wp2_with (refine wpList_new (op := ⟨some 13, _, _, _, _, _⟩) rfl 96 rfl (itC ⟨0, 0, Z0⟩ 0) zero_it N13 HN13.out ?_; intro w5 k1 b1 s9; refine Hid.out ?_)
        refine Lib.hid ?_
        have K13 := Lib.hid k1
        have HB1 := Lib.hid b1
        clear k1 b1 s9
        go_wp2_with (refine wpList_st rfl 96 (.tmp 13) (.tmp 41) rfl N13 0 rfl (.agg (itK x1)) (itK x1) rfl rfl info_it (it_one _ _) K13.out (Nat.le_of_ble_eq_true rfl) (C' := itK x1) (it_over _ _) ?_; intro w6 q1; refine Hid.out ?_)
        refine Lib.hid ?_
        have b1 : Below wr.heap.size wr w6 := HB1.out.trans (q1.2.1 _ (by rw [HN13.out]; exact Nat.le_refl _))
        have K13n : Hid (Blk 96 w6 N13 (itK x1)) := Lib.hid q1.1
        clear K13
        have K13 := K13n
        clear K13n q1 HB1 HN13
        have HQn := Lib.hid (HQ.out.trans (b1.mono (by have := HQ.out.size; rw [HBL.out] at this; exact this)))
        clear HQ
        have HQ := HQn
        clear HQn
        have KXwn := Lib.hid (KXw.out.below b1 KXw.out.lt)
        clear KXw
        have KXw := KXwn
        clear KXwn
        have K10wn := Lib.hid (K10w.out.below b1 K10w.out.lt)
        clear K10w
        have K10w := K10wn
        clear K10wn
        clear b1
        obtain ⟨cv, hcv⟩ : ∃ d, cvQ (whK true z) x1.1 = d := ⟨_, rfl⟩
        have HCV := Lib.hid hcv
        have HPX : Hid (Pc x1.1 = cv) := Lib.hid (by rw [← HPC.out]; exact hcv)
        clear hcv
        go_wp2_with fail
        cases cv with
        | false =>
          have HQc : Hid (Below wc.heap.size wc w6) := Lib.hid (by rw [HBL.out]; exact HQ.out)
          clear HQ
          refine wp_region_held_drew (S := fun w' => Blk 96 w' N13 (itK x1) ∧ Blk 32 w' N10 (pfC (kyPf (whK true z))) ∧ Blk 30 w' x (#[.slice (some ⟨bA, off, none⟩) m c]) ∧ Below wc.heap.size wc w') (by kernel_rfl) ⟨K13.out, K10w.out, KXw.out, HQc.out.drew⟩ (fun hS => ?_)
          generalize hW61 : w6.drew = W61 at hS  ⊢
          clear hW61
          clear K13
          clear K10w
          clear KXw
          clear HQc
          have K13 := Lib.hid hS.1
          have K10w := Lib.hid hS.2.1
          have KXw := Lib.hid hS.2.2.1
          have HQc := Lib.hid hS.2.2.2
          refine takeY (i := 0) (some 42) (v := .pointer (some ⟨N13, 0, none⟩)) rfl rfl (by kernel_rfl) (by kernel_rfl) (by kernel_rfl) (fun _ _ _ h => h) (by rfl) (fun w' hS => by clear hS; go_simp) hS ?_
          simp only [Act.put, List.setIfInBounds_toArray, List.set_cons_zero, List.set_cons_succ]
          refine takeL (i := 1) (some 43) 32 (.tmp 42) N13 0 (pfC (kyPf x1.1)) _ rfl rfl (by kernel_rfl) (by kernel_rfl) (by kernel_rfl) (fun _ _ _ h => h) (by rfl) rfl rfl (fun w' hS => hS.1.itpf) Try.underlying32 rfl (hi_pv _ _ _) hS ?_
          simp only [Act.put, List.setIfInBounds_toArray, List.set_cons_zero, List.set_cons_succ]
          refine takeL (i := 2) (some 44) 32 (.tmp 10) N10 0 (pfC (kyPf (whK true z))) _ rfl rfl (by kernel_rfl) (by kernel_rfl) (by kernel_rfl) (fun _ _ _ h => h) (by rfl) rfl rfl (fun w' hS => hS.2.1.all) Try.underlying32 rfl (hi_pv _ _ _) hS ?_
          simp only [Act.put, List.setIfInBounds_toArray, List.set_cons_zero, List.set_cons_succ]
          refine takeC (i := 3) (some 45) 68 #[.agg (pfC (kyPf x1.1)), .agg (pfC (kyPf (whK true z)))] (.bool false) (R := fun w' => Below W61.heap.size W61 w') rfl rfl (by kernel_rfl) (by rfl) (by go_simp) (by have h9 := covK HKX.out HKW.out W61; rw [HCV.out] at h9; exact h9) (fun w' hb => ⟨hS.1.below hb hS.1.lt, hS.2.1.below hb hS.2.1.lt, hS.2.2.1.below hb hS.2.2.1.lt, hS.2.2.2.trans (hb.mono hS.2.2.2.size)⟩) (fun W62 hb1 hS2 => ?_)
          simp only [Act.put, List.setIfInBounds_toArray, List.set_cons_zero, List.set_cons_succ]
          clear K13
          clear K10w
          clear KXw
          clear HQc
          clear hS hb1
          have hS := hS2
          clear hS2
          have K13 := Lib.hid hS.1
          have K10w := Lib.hid hS.2.1
          have KXw := Lib.hid hS.2.2.1
          have HQc := Lib.hid hS.2.2.2
          refine takeY (i := 4) (some 46) (v := .bool false) rfl rfl (by kernel_rfl) (by kernel_rfl) (by kernel_rfl) (fun _ _ _ h => h) (by rfl) (fun w' hS => by clear hS; go_simp) hS ?_
          simp only [Act.put, List.setIfInBounds_toArray, List.set_cons_zero, List.set_cons_succ]
          refine takeN (i := 5) (some 47) rfl rfl (by kernel_rfl) (by kernel_rfl) (by kernel_rfl) (fun _ _ _ h => h) (by rfl) hS ?_
          simp only [Act.put, List.setIfInBounds_toArray, List.set_cons_zero, List.set_cons_succ]
          refine takeN (i := 6) (some 48) rfl rfl (by kernel_rfl) (by kernel_rfl) (by kernel_rfl) (fun _ _ _ h => h) (by rfl) hS ?_
          simp only [Act.put, List.setIfInBounds_toArray, List.set_cons_zero, List.set_cons_succ]
          refine takeN (i := 7) (some 49) rfl rfl (by kernel_rfl) (by kernel_rfl) (by kernel_rfl) (fun _ _ _ h => h) (by rfl) hS ?_
          simp only [Act.put, List.setIfInBounds_toArray, List.set_cons_zero, List.set_cons_succ]
          refine takeN (i := 8) (some 50) rfl rfl (by kernel_rfl) (by kernel_rfl) (by kernel_rfl) (fun _ _ _ h => h) (by rfl) hS ?_
          simp only [Act.put, List.setIfInBounds_toArray, List.set_cons_zero, List.set_cons_succ]
          refine takeN (i := 9) (some 51) rfl rfl (by kernel_rfl) (by kernel_rfl) (by kernel_rfl) (fun _ _ _ h => h) (by rfl) hS ?_
          simp only [Act.put, List.setIfInBounds_toArray, List.set_cons_zero, List.set_cons_succ]
          refine takeN (i := 10) (some 52) rfl rfl (by kernel_rfl) (by kernel_rfl) (by kernel_rfl) (fun _ _ _ h => h) (by rfl) hS ?_
          simp only [Act.put, List.setIfInBounds_toArray, List.set_cons_zero, List.set_cons_succ]
          refine takeN (i := 11) (some 53) rfl rfl (by kernel_rfl) (by kernel_rfl) (by kernel_rfl) (fun _ _ _ h => h) (by rfl) hS ?_
          simp only [Act.put, List.setIfInBounds_toArray, List.set_cons_zero, List.set_cons_succ]
          refine takeN (i := 12) (some 54) rfl rfl (by kernel_rfl) (by kernel_rfl) (by kernel_rfl) (fun _ _ _ h => h) (by rfl) hS ?_
          simp only [Act.put, List.setIfInBounds_toArray, List.set_cons_zero, List.set_cons_succ]
          refine takeN (i := 13) (some 55) rfl rfl (by kernel_rfl) (by kernel_rfl) (by kernel_rfl) (fun _ _ _ h => h) (by rfl) hS ?_
          simp only [Act.put, List.setIfInBounds_toArray, List.set_cons_zero, List.set_cons_succ]
          refine takeN (i := 14) (some 56) rfl rfl (by kernel_rfl) (by kernel_rfl) (by kernel_rfl) (fun _ _ _ h => h) (by rfl) hS ?_
          simp only [Act.put, List.setIfInBounds_toArray, List.set_cons_zero, List.set_cons_succ]
          refine takeN (i := 15) (some 57) rfl rfl (by kernel_rfl) (by kernel_rfl) (by kernel_rfl) (fun _ _ _ h => h) (by rfl) hS ?_
          simp only [Act.put, List.setIfInBounds_toArray, List.set_cons_zero, List.set_cons_succ]
          refine takeN (i := 16) (some 58) rfl rfl (by kernel_rfl) (by kernel_rfl) (by kernel_rfl) (fun _ _ _ h => h) (by rfl) hS ?_
          simp only [Act.put, List.setIfInBounds_toArray, List.set_cons_zero, List.set_cons_succ]
          refine takeN (i := 17) (some 59) rfl rfl (by kernel_rfl) (by kernel_rfl) (by kernel_rfl) (fun _ _ _ h => h) (by rfl) hS ?_
          simp only [Act.put, List.setIfInBounds_toArray, List.set_cons_zero, List.set_cons_succ]
          refine takeN (i := 18) (some 60) rfl rfl (by kernel_rfl) (by kernel_rfl) (by kernel_rfl) (fun _ _ _ h => h) (by rfl) hS ?_
          simp only [Act.put, List.setIfInBounds_toArray, List.set_cons_zero, List.set_cons_succ]
          refine takeN (i := 19) (some 61) rfl rfl (by kernel_rfl) (by kernel_rfl) (by kernel_rfl) (fun _ _ _ h => h) (by rfl) hS ?_
          simp only [Act.put, List.setIfInBounds_toArray, List.set_cons_zero, List.set_cons_succ]
          refine takeN (i := 20) (some 62) rfl rfl (by kernel_rfl) (by kernel_rfl) (by kernel_rfl) (fun _ _ _ h => h) (by rfl) hS ?_
          simp only [Act.put, List.setIfInBounds_toArray, List.set_cons_zero, List.set_cons_succ]
          refine takeN (i := 21) (some 63) rfl rfl (by kernel_rfl) (by kernel_rfl) (by kernel_rfl) (fun _ _ _ h => h) (by rfl) hS ?_
          simp only [Act.put, List.setIfInBounds_toArray, List.set_cons_zero, List.set_cons_succ]
          refine takeY (i := 22) (some 64) (v := .bool false) rfl rfl (by kernel_rfl) (by kernel_rfl) (by kernel_rfl) (fun _ _ _ h => h) (by rfl) (fun w' hS => by clear hS; go_simp) hS ?_
          simp only [Act.put, List.setIfInBounds_toArray, List.set_cons_zero, List.set_cons_succ]
          clear hS
          refine wpAnyH_done (by kernel_rfl) ?_ _
          have HQ : Hid (Below BL wc W62) := Lib.hid (by rw [← HBL.out]; exact HQc.out)
          have HPn := Lib.hid (bs_no _ HP.out HX.out HPX.out)
          go_wp2_with fail
          go_roundw
          case rel => exact ⟨j + 1, bb, by omega, by go_num, rfl, HQ, HPn⟩
          case measure => simp only [intOf]; omega
        | true =>
          cases bb with
          | none =>
            have HQc : Hid (Below wc.heap.size wc w6) := Lib.hid (by rw [HBL.out]; exact HQ.out)
            clear HQ
            refine wp_region_held_drew (S := fun w' => Blk 96 w' N13 (itK x1) ∧ Blk 32 w' N10 (pfC (kyPf (whK true z))) ∧ Blk 30 w' x (#[.slice (some ⟨bA, off, none⟩) m c]) ∧ Below wc.heap.size wc w') (by kernel_rfl) ⟨K13.out, K10w.out, KXw.out, HQc.out.drew⟩ (fun hS => ?_)
            generalize hW61 : w6.drew = W61 at hS  ⊢
            clear hW61
            clear K13
            clear K10w
            clear KXw
            clear HQc
            have K13 := Lib.hid hS.1
            have K10w := Lib.hid hS.2.1
            have KXw := Lib.hid hS.2.2.1
            have HQc := Lib.hid hS.2.2.2
            refine takeY (i := 0) (some 42) (v := .pointer (some ⟨N13, 0, none⟩)) rfl rfl (by kernel_rfl) (by kernel_rfl) (by kernel_rfl) (fun _ _ _ h => h) (by rfl) (fun w' hS => by clear hS; go_simp) hS ?_
            simp only [Act.put, List.setIfInBounds_toArray, List.set_cons_zero, List.set_cons_succ]
            refine takeL (i := 1) (some 43) 32 (.tmp 42) N13 0 (pfC (kyPf x1.1)) _ rfl rfl (by kernel_rfl) (by kernel_rfl) (by kernel_rfl) (fun _ _ _ h => h) (by rfl) rfl rfl (fun w' hS => hS.1.itpf) Try.underlying32 rfl (hi_pv _ _ _) hS ?_
            simp only [Act.put, List.setIfInBounds_toArray, List.set_cons_zero, List.set_cons_succ]
            refine takeL (i := 2) (some 44) 32 (.tmp 10) N10 0 (pfC (kyPf (whK true z))) _ rfl rfl (by kernel_rfl) (by kernel_rfl) (by kernel_rfl) (fun _ _ _ h => h) (by rfl) rfl rfl (fun w' hS => hS.2.1.all) Try.underlying32 rfl (hi_pv _ _ _) hS ?_
            simp only [Act.put, List.setIfInBounds_toArray, List.set_cons_zero, List.set_cons_succ]
            refine takeC (i := 3) (some 45) 68 #[.agg (pfC (kyPf x1.1)), .agg (pfC (kyPf (whK true z)))] (.bool true) (R := fun w' => Below W61.heap.size W61 w') rfl rfl (by kernel_rfl) (by rfl) (by go_simp) (by have h9 := covK HKX.out HKW.out W61; rw [HCV.out] at h9; exact h9) (fun w' hb => ⟨hS.1.below hb hS.1.lt, hS.2.1.below hb hS.2.1.lt, hS.2.2.1.below hb hS.2.2.1.lt, hS.2.2.2.trans (hb.mono hS.2.2.2.size)⟩) (fun W62 hb1 hS2 => ?_)
            simp only [Act.put, List.setIfInBounds_toArray, List.set_cons_zero, List.set_cons_succ]
            clear K13
            clear K10w
            clear KXw
            clear HQc
            clear hS hb1
            have hS := hS2
            clear hS2
            have K13 := Lib.hid hS.1
            have K10w := Lib.hid hS.2.1
            have KXw := Lib.hid hS.2.2.1
            have HQc := Lib.hid hS.2.2.2
            refine takeY (i := 4) (some 46) (v := .bool true) rfl rfl (by kernel_rfl) (by kernel_rfl) (by kernel_rfl) (fun _ _ _ h => h) (by rfl) (fun w' hS => by clear hS; go_simp) hS ?_
            simp only [Act.put, List.setIfInBounds_toArray, List.set_cons_zero, List.set_cons_succ]
            refine takeY (i := 5) (some 47) (v := .int .i64 (bI none)) rfl rfl (by kernel_rfl) (by kernel_rfl) (by kernel_rfl) (fun _ _ _ h => h) (by rfl) (fun w' hS => by clear hS; go_simp) hS ?_
            simp only [Act.put, List.setIfInBounds_toArray, List.set_cons_zero, List.set_cons_succ]
            refine takeY (i := 6) (some 48) (v := .bool true) rfl rfl (by kernel_rfl) (by kernel_rfl) (by kernel_rfl) (fun _ _ _ h => h) (by rfl) (fun w' hS => by clear hS; exact lss0_run _ _ _ rfl _ true (by decide) rfl rfl _) hS ?_
            simp only [Act.put, List.setIfInBounds_toArray, List.set_cons_zero, List.set_cons_succ]
            refine takeY (i := 7) (some 49) (v := .bool true) rfl rfl (by kernel_rfl) (by kernel_rfl) (by kernel_rfl) (fun _ _ _ h => h) (by rfl) (fun w' hS => by clear hS; go_simp) hS ?_
            simp only [Act.put, List.setIfInBounds_toArray, List.set_cons_zero, List.set_cons_succ]
            refine takeN (i := 8) (some 50) rfl rfl (by kernel_rfl) (by kernel_rfl) (by kernel_rfl) (fun _ _ _ h => h) (by rfl) hS ?_
            simp only [Act.put, List.setIfInBounds_toArray, List.set_cons_zero, List.set_cons_succ]
            refine takeN (i := 9) (some 51) rfl rfl (by kernel_rfl) (by kernel_rfl) (by kernel_rfl) (fun _ _ _ h => h) (by rfl) hS ?_
            simp only [Act.put, List.setIfInBounds_toArray, List.set_cons_zero, List.set_cons_succ]
            refine takeN (i := 10) (some 52) rfl rfl (by kernel_rfl) (by kernel_rfl) (by kernel_rfl) (fun _ _ _ h => h) (by rfl) hS ?_
            simp only [Act.put, List.setIfInBounds_toArray, List.set_cons_zero, List.set_cons_succ]
            refine takeN (i := 11) (some 53) rfl rfl (by kernel_rfl) (by kernel_rfl) (by kernel_rfl) (fun _ _ _ h => h) (by rfl) hS ?_
            simp only [Act.put, List.setIfInBounds_toArray, List.set_cons_zero, List.set_cons_succ]
            refine takeN (i := 12) (some 54) rfl rfl (by kernel_rfl) (by kernel_rfl) (by kernel_rfl) (fun _ _ _ h => h) (by rfl) hS ?_
            simp only [Act.put, List.setIfInBounds_toArray, List.set_cons_zero, List.set_cons_succ]
            refine takeN (i := 13) (some 55) rfl rfl (by kernel_rfl) (by kernel_rfl) (by kernel_rfl) (fun _ _ _ h => h) (by rfl) hS ?_
            simp only [Act.put, List.setIfInBounds_toArray, List.set_cons_zero, List.set_cons_succ]
            refine takeN (i := 14) (some 56) rfl rfl (by kernel_rfl) (by kernel_rfl) (by kernel_rfl) (fun _ _ _ h => h) (by rfl) hS ?_
            simp only [Act.put, List.setIfInBounds_toArray, List.set_cons_zero, List.set_cons_succ]
            refine takeN (i := 15) (some 57) rfl rfl (by kernel_rfl) (by kernel_rfl) (by kernel_rfl) (fun _ _ _ h => h) (by rfl) hS ?_
            simp only [Act.put, List.setIfInBounds_toArray, List.set_cons_zero, List.set_cons_succ]
            refine takeN (i := 16) (some 58) rfl rfl (by kernel_rfl) (by kernel_rfl) (by kernel_rfl) (fun _ _ _ h => h) (by rfl) hS ?_
            simp only [Act.put, List.setIfInBounds_toArray, List.set_cons_zero, List.set_cons_succ]
            refine takeN (i := 17) (some 59) rfl rfl (by kernel_rfl) (by kernel_rfl) (by kernel_rfl) (fun _ _ _ h => h) (by rfl) hS ?_
            simp only [Act.put, List.setIfInBounds_toArray, List.set_cons_zero, List.set_cons_succ]
            refine takeN (i := 18) (some 60) rfl rfl (by kernel_rfl) (by kernel_rfl) (by kernel_rfl) (fun _ _ _ h => h) (by rfl) hS ?_
            simp only [Act.put, List.setIfInBounds_toArray, List.set_cons_zero, List.set_cons_succ]
            refine takeN (i := 19) (some 61) rfl rfl (by kernel_rfl) (by kernel_rfl) (by kernel_rfl) (fun _ _ _ h => h) (by rfl) hS ?_
            simp only [Act.put, List.setIfInBounds_toArray, List.set_cons_zero, List.set_cons_succ]
            refine takeN (i := 20) (some 62) rfl rfl (by kernel_rfl) (by kernel_rfl) (by kernel_rfl) (fun _ _ _ h => h) (by rfl) hS ?_
            simp only [Act.put, List.setIfInBounds_toArray, List.set_cons_zero, List.set_cons_succ]
            refine takeY (i := 21) (some 63) (v := .bool true) rfl rfl (by kernel_rfl) (by kernel_rfl) (by kernel_rfl) (fun _ _ _ h => h) (by rfl) (fun w' hS => by clear hS; go_simp) hS ?_
            simp only [Act.put, List.setIfInBounds_toArray, List.set_cons_zero, List.set_cons_succ]
            refine takeY (i := 22) (some 64) (v := .bool true) rfl rfl (by kernel_rfl) (by kernel_rfl) (by kernel_rfl) (fun _ _ _ h => h) (by rfl) (fun w' hS => by clear hS; go_simp) hS ?_
            simp only [Act.put, List.setIfInBounds_toArray, List.set_cons_zero, List.set_cons_succ]
            clear hS
            refine wpAnyH_done (by kernel_rfl) ?_ _
            have HQ : Hid (Below BL wc W62) := Lib.hid (by rw [← HBL.out]; exact HQc.out)
            have HPn := Lib.hid (bs_first HP.out HX.out HPX.out)
            go_wp2_with fail
            go_roundw
            case rel => exact ⟨j + 1, some j, by omega, by go_num, rfl, HQ, HPn⟩
            case measure => simp only [intOf]; omega
          | some q =>
            obtain ⟨yq, hy, _⟩ := id HP.out
            have HY := Lib.hid hy
            have HQM : Hid (q < m) := Lib.hid (by rw [← HM.out]; exact (List.getElem?_eq_some_iff.1 hy).1)
            clear hy
            by_cases hll : yq.1.2.length < x1.1.2.length
            · have HLL := Lib.hid hll
              clear hll
              have HQc : Hid (Below wc.heap.size wc w6) := Lib.hid (by rw [HBL.out]; exact HQ.out)
              clear HQ
              refine wp_region_held_drew (S := fun w' => Blk 96 w' N13 (itK x1) ∧ Blk 32 w' N10 (pfC (kyPf (whK true z))) ∧ Blk 30 w' x (#[.slice (some ⟨bA, off, none⟩) m c]) ∧ Below wc.heap.size wc w') (by kernel_rfl) ⟨K13.out, K10w.out, KXw.out, HQc.out.drew⟩ (fun hS => ?_)
              generalize hW61 : w6.drew = W61 at hS  ⊢
              clear hW61
              clear K13
              clear K10w
              clear KXw
              clear HQc
              have K13 := Lib.hid hS.1
              have K10w := Lib.hid hS.2.1
              have KXw := Lib.hid hS.2.2.1
              have HQc := Lib.hid hS.2.2.2
              refine takeY (i := 0) (some 42) (v := .pointer (some ⟨N13, 0, none⟩)) rfl rfl (by kernel_rfl) (by kernel_rfl) (by kernel_rfl) (fun _ _ _ h => h) (by rfl) (fun w' hS => by clear hS; go_simp) hS ?_
              simp only [Act.put, List.setIfInBounds_toArray, List.set_cons_zero, List.set_cons_succ]
              refine takeL (i := 1) (some 43) 32 (.tmp 42) N13 0 (pfC (kyPf x1.1)) _ rfl rfl (by kernel_rfl) (by kernel_rfl) (by kernel_rfl) (fun _ _ _ h => h) (by rfl) rfl rfl (fun w' hS => hS.1.itpf) Try.underlying32 rfl (hi_pv _ _ _) hS ?_
              simp only [Act.put, List.setIfInBounds_toArray, List.set_cons_zero, List.set_cons_succ]
              refine takeL (i := 2) (some 44) 32 (.tmp 10) N10 0 (pfC (kyPf (whK true z))) _ rfl rfl (by kernel_rfl) (by kernel_rfl) (by kernel_rfl) (fun _ _ _ h => h) (by rfl) rfl rfl (fun w' hS => hS.2.1.all) Try.underlying32 rfl (hi_pv _ _ _) hS ?_
              simp only [Act.put, List.setIfInBounds_toArray, List.set_cons_zero, List.set_cons_succ]
              refine takeC (i := 3) (some 45) 68 #[.agg (pfC (kyPf x1.1)), .agg (pfC (kyPf (whK true z)))] (.bool true) (R := fun w' => Below W61.heap.size W61 w') rfl rfl (by kernel_rfl) (by rfl) (by go_simp) (by have h9 := covK HKX.out HKW.out W61; rw [HCV.out] at h9; exact h9) (fun w' hb => ⟨hS.1.below hb hS.1.lt, hS.2.1.below hb hS.2.1.lt, hS.2.2.1.below hb hS.2.2.1.lt, hS.2.2.2.trans (hb.mono hS.2.2.2.size)⟩) (fun W62 hb1 hS2 => ?_)
              simp only [Act.put, List.setIfInBounds_toArray, List.set_cons_zero, List.set_cons_succ]
              clear K13
              clear K10w
              clear KXw
              clear HQc
              clear hS hb1
              have hS := hS2
              clear hS2
              have K13 := Lib.hid hS.1
              have K10w := Lib.hid hS.2.1
              have KXw := Lib.hid hS.2.2.1
              have HQc := Lib.hid hS.2.2.2
              refine takeY (i := 4) (some 46) (v := .bool true) rfl rfl (by kernel_rfl) (by kernel_rfl) (by kernel_rfl) (fun _ _ _ h => h) (by rfl) (fun w' hS => by clear hS; go_simp) hS ?_
              simp only [Act.put, List.setIfInBounds_toArray, List.set_cons_zero, List.set_cons_succ]
              refine takeY (i := 5) (some 47) (v := .int .i64 (bI (some q))) rfl rfl (by kernel_rfl) (by kernel_rfl) (by kernel_rfl) (fun _ _ _ h => h) (by rfl) (fun w' hS => by clear hS; go_simp) hS ?_
              simp only [Act.put, List.setIfInBounds_toArray, List.set_cons_zero, List.set_cons_succ]
              refine takeY (i := 6) (some 48) (v := .bool false) rfl rfl (by kernel_rfl) (by kernel_rfl) (by kernel_rfl) (fun _ _ _ h => h) (by rfl) (fun w' hS => by clear hS; exact lss0_run _ _ _ rfl _ false (by exact decide_eq_false (by show ¬ (q : Int) < 0; omega)) rfl rfl _) hS ?_
              simp only [Act.put, List.setIfInBounds_toArray, List.set_cons_zero, List.set_cons_succ]
              refine takeY (i := 7) (some 49) (v := .bool false) rfl rfl (by kernel_rfl) (by kernel_rfl) (by kernel_rfl) (fun _ _ _ h => h) (by rfl) (fun w' hS => by clear hS; go_simp) hS ?_
              simp only [Act.put, List.setIfInBounds_toArray, List.set_cons_zero, List.set_cons_succ]
              refine takeY (i := 8) (some 50) (v := .pointer (some ⟨N13, 0, none⟩)) rfl rfl (by kernel_rfl) (by kernel_rfl) (by kernel_rfl) (fun _ _ _ h => h) (by rfl) (fun w' hS => by clear hS; go_simp) hS ?_
              simp only [Act.put, List.setIfInBounds_toArray, List.set_cons_zero, List.set_cons_succ]
              refine takeY (i := 9) (some 51) (v := .pointer (some ⟨N13, 1, none⟩)) rfl rfl (by kernel_rfl) (by kernel_rfl) (by kernel_rfl) (fun _ _ _ h => h) (by rfl) (fun w' hS => by clear hS; go_simp) hS ?_
              simp only [Act.put, List.setIfInBounds_toArray, List.set_cons_zero, List.set_cons_succ]
              refine takeY (i := 10) (some 52) (v := .int .i64 (kyPf x1.1).len) rfl rfl (by kernel_rfl) (by kernel_rfl) (by kernel_rfl) (fun _ _ _ h => h) (by rfl) (fun w' hS => by (have c9 : w'.cell? ⟨N13, 1, none⟩ = some (.int .i64 (kyPf x1.1).len) := (hS.1.cell 1).trans rfl; clear hS; go_simp)) hS ?_
              simp only [Act.put, List.setIfInBounds_toArray, List.set_cons_zero, List.set_cons_succ]
              refine takeY (i := 11) (some 53) (v := .pointer (some ⟨x, 0, none⟩)) rfl rfl (by kernel_rfl) (by kernel_rfl) (by kernel_rfl) (fun _ _ _ h => h) (by rfl) (fun w' hS => by clear hS; go_simp) hS ?_
              simp only [Act.put, List.setIfInBounds_toArray, List.set_cons_zero, List.set_cons_succ]
              refine takeY (i := 12) (some 54) (v := .pointer (some ⟨x, 0, none⟩)) rfl rfl (by kernel_rfl) (by kernel_rfl) (by kernel_rfl) (fun _ _ _ h => h) (by rfl) (fun w' hS => by clear hS; go_simp) hS ?_
              simp only [Act.put, List.setIfInBounds_toArray, List.set_cons_zero, List.set_cons_succ]
              refine takeY (i := 13) (some 55) (v := .pointer (some ⟨x, 0, none⟩)) rfl rfl (by kernel_rfl) (by kernel_rfl) (by kernel_rfl) (fun _ _ _ h => h) (by rfl) (fun w' hS => by clear hS; go_simp) hS ?_
              simp only [Act.put, List.setIfInBounds_toArray, List.set_cons_zero, List.set_cons_succ]
              refine takeY (i := 14) (some 56) (v := .slice (some ⟨bA, off, none⟩) m c) rfl rfl (by kernel_rfl) (by kernel_rfl) (by kernel_rfl) (fun _ _ _ h => h) (by rfl) (fun w' hS => by (have c9 : w'.cell? ⟨x, 0, none⟩ = some (.slice (some ⟨bA, off, none⟩) m c) := (hS.2.2.1.cell 0).trans rfl; clear hS; go_simp)) hS ?_
              simp only [Act.put, List.setIfInBounds_toArray, List.set_cons_zero, List.set_cons_succ]
              refine takeY (i := 15) (some 57) (v := .int .i64 (bI (some q))) rfl rfl (by kernel_rfl) (by kernel_rfl) (by kernel_rfl) (fun _ _ _ h => h) (by rfl) (fun w' hS => by clear hS; go_simp) hS ?_
              simp only [Act.put, List.setIfInBounds_toArray, List.set_cons_zero, List.set_cons_succ]
              refine takeY (i := 16) (some 58) (v := .pointer (some ⟨bA, off + q * 19, none⟩)) rfl rfl (by kernel_rfl) (by kernel_rfl) (by kernel_rfl) (fun _ _ _ h => h) (by rfl) (fun w' hS => by clear hS; exact index_i _ _ _ _ rfl bA off m c q rfl rfl HQM.out _) hS ?_
              simp only [Act.put, List.setIfInBounds_toArray, List.set_cons_zero, List.set_cons_succ]
              refine takeY (i := 17) (some 59) (v := .pointer (some ⟨bA, off + q * 19, none⟩)) rfl rfl (by kernel_rfl) (by kernel_rfl) (by kernel_rfl) (fun _ _ _ h => h) (by rfl) (fun w' hS => by clear hS; go_simp) hS ?_
              simp only [Act.put, List.setIfInBounds_toArray, List.set_cons_zero, List.set_cons_succ]
              refine takeY (i := 18) (some 60) (v := .pointer (some ⟨bA, off + q * 19 + 1, none⟩)) rfl rfl (by kernel_rfl) (by kernel_rfl) (by kernel_rfl) (fun _ _ _ h => h) (by rfl) (fun w' hS => by clear hS; go_simp) hS ?_
              simp only [Act.put, List.setIfInBounds_toArray, List.set_cons_zero, List.set_cons_succ]
              refine takeY (i := 19) (some 61) (v := .int .i64 (kyPf yq.1).len) rfl rfl (by kernel_rfl) (by kernel_rfl) (by kernel_rfl) (fun _ _ _ h => h) (by rfl) (fun w' hS => by (have c9 : w'.cell? ⟨bA, off + q * 19 + 1, none⟩ = some (.int .i64 (kyPf yq.1).len) := it_lr (it_read HR.out hS.2.2.2 HR.out.1 HQM.out HY.out); clear hS; go_simp)) hS ?_
              simp only [Act.put, List.setIfInBounds_toArray, List.set_cons_zero, List.set_cons_succ]
              refine takeY (i := 20) (some 62) (v := .bool true) rfl rfl (by kernel_rfl) (by kernel_rfl) (by kernel_rfl) (fun _ _ _ h => h) (by rfl) (fun w' hS => by clear hS; exact gtr_run _ _ _ _ rfl _ _ true (by have := HLL.out; exact decide_eq_true (Int.ofNat_lt.2 this)) rfl rfl _) hS ?_
              simp only [Act.put, List.setIfInBounds_toArray, List.set_cons_zero, List.set_cons_succ]
              refine takeY (i := 21) (some 63) (v := .bool true) rfl rfl (by kernel_rfl) (by kernel_rfl) (by kernel_rfl) (fun _ _ _ h => h) (by rfl) (fun w' hS => by clear hS; go_simp) hS ?_
              simp only [Act.put, List.setIfInBounds_toArray, List.set_cons_zero, List.set_cons_succ]
              refine takeY (i := 22) (some 64) (v := .bool true) rfl rfl (by kernel_rfl) (by kernel_rfl) (by kernel_rfl) (fun _ _ _ h => h) (by rfl) (fun w' hS => by clear hS; go_simp) hS ?_
              simp only [Act.put, List.setIfInBounds_toArray, List.set_cons_zero, List.set_cons_succ]
              clear hS
              refine wpAnyH_done (by kernel_rfl) ?_ _
              have HQ : Hid (Below BL wc W62) := Lib.hid (by rw [← HBL.out]; exact HQc.out)
              have HPn := Lib.hid (bs_more HP.out HY.out HX.out HPX.out HLL.out)
              go_wp2_with fail
              go_roundw
              case rel => exact ⟨j + 1, some j, by omega, by go_num, rfl, HQ, HPn⟩
              case measure => simp only [intOf]; omega
            · have HLL := Lib.hid hll
              clear hll
              have HQc : Hid (Below wc.heap.size wc w6) := Lib.hid (by rw [HBL.out]; exact HQ.out)
              clear HQ
              refine wp_region_held_drew (S := fun w' => Blk 96 w' N13 (itK x1) ∧ Blk 32 w' N10 (pfC (kyPf (whK true z))) ∧ Blk 30 w' x (#[.slice (some ⟨bA, off, none⟩) m c]) ∧ Below wc.heap.size wc w') (by kernel_rfl) ⟨K13.out, K10w.out, KXw.out, HQc.out.drew⟩ (fun hS => ?_)
              generalize hW61 : w6.drew = W61 at hS  ⊢
              clear hW61
              clear K13
              clear K10w
              clear KXw
              clear HQc
              have K13 := Lib.hid hS.1
              have K10w := Lib.hid hS.2.1
              have KXw := Lib.hid hS.2.2.1
              have HQc := Lib.hid hS.2.2.2
              refine takeY (i := 0) (some 42) (v := .pointer (some ⟨N13, 0, none⟩)) rfl rfl (by kernel_rfl) (by kernel_rfl) (by kernel_rfl) (fun _ _ _ h => h) (by rfl) (fun w' hS => by clear hS; go_simp) hS ?_
              simp only [Act.put, List.setIfInBounds_toArray, List.set_cons_zero, List.set_cons_succ]
              refine takeL (i := 1) (some 43) 32 (.tmp 42) N13 0 (pfC (kyPf x1.1)) _ rfl rfl (by kernel_rfl) (by kernel_rfl) (by kernel_rfl) (fun _ _ _ h => h) (by rfl) rfl rfl (fun w' hS => hS.1.itpf) Try.underlying32 rfl (hi_pv _ _ _) hS ?_
              simp only [Act.put, List.setIfInBounds_toArray, List.set_cons_zero, List.set_cons_succ]
              refine takeL (i := 2) (some 44) 32 (.tmp 10) N10 0 (pfC (kyPf (whK true z))) _ rfl rfl (by kernel_rfl) (by kernel_rfl) (by kernel_rfl) (fun _ _ _ h => h) (by rfl) rfl rfl (fun w' hS => hS.2.1.all) Try.underlying32 rfl (hi_pv _ _ _) hS ?_
              simp only [Act.put, List.setIfInBounds_toArray, List.set_cons_zero, List.set_cons_succ]
              refine takeC (i := 3) (some 45) 68 #[.agg (pfC (kyPf x1.1)), .agg (pfC (kyPf (whK true z)))] (.bool true) (R := fun w' => Below W61.heap.size W61 w') rfl rfl (by kernel_rfl) (by rfl) (by go_simp) (by have h9 := covK HKX.out HKW.out W61; rw [HCV.out] at h9; exact h9) (fun w' hb => ⟨hS.1.below hb hS.1.lt, hS.2.1.below hb hS.2.1.lt, hS.2.2.1.below hb hS.2.2.1.lt, hS.2.2.2.trans (hb.mono hS.2.2.2.size)⟩) (fun W62 hb1 hS2 => ?_)
              simp only [Act.put, List.setIfInBounds_toArray, List.set_cons_zero, List.set_cons_succ]
              clear K13
              clear K10w
              clear KXw
              clear HQc
              clear hS hb1
              have hS := hS2
              clear hS2
              have K13 := Lib.hid hS.1
              have K10w := Lib.hid hS.2.1
              have KXw := Lib.hid hS.2.2.1
              have HQc := Lib.hid hS.2.2.2
              refine takeY (i := 4) (some 46) (v := .bool true) rfl rfl (by kernel_rfl) (by kernel_rfl) (by kernel_rfl) (fun _ _ _ h => h) (by rfl) (fun w' hS => by clear hS; go_simp) hS ?_
              simp only [Act.put, List.setIfInBounds_toArray, List.set_cons_zero, List.set_cons_succ]
              refine takeY (i := 5) (some 47) (v := .int .i64 (bI (some q))) rfl rfl (by kernel_rfl) (by kernel_rfl) (by kernel_rfl) (fun _ _ _ h => h) (by rfl) (fun w' hS => by clear hS; go_simp) hS ?_
              simp only [Act.put, List.setIfInBounds_toArray, List.set_cons_zero, List.set_cons_succ]
              refine takeY (i := 6) (some 48) (v := .bool false) rfl rfl (by kernel_rfl) (by kernel_rfl) (by kernel_rfl) (fun _ _ _ h => h) (by rfl) (fun w' hS => by clear hS; exact lss0_run _ _ _ rfl _ false (by exact decide_eq_false (by show ¬ (q : Int) < 0; omega)) rfl rfl _) hS ?_
              simp only [Act.put, List.setIfInBounds_toArray, List.set_cons_zero, List.set_cons_succ]
              refine takeY (i := 7) (some 49) (v := .bool false) rfl rfl (by kernel_rfl) (by kernel_rfl) (by kernel_rfl) (fun _ _ _ h => h) (by rfl) (fun w' hS => by clear hS; go_simp) hS ?_
              simp only [Act.put, List.setIfInBounds_toArray, List.set_cons_zero, List.set_cons_succ]
              refine takeY (i := 8) (some 50) (v := .pointer (some ⟨N13, 0, none⟩)) rfl rfl (by kernel_rfl) (by kernel_rfl) (by kernel_rfl) (fun _ _ _ h => h) (by rfl) (fun w' hS => by clear hS; go_simp) hS ?_
              simp only [Act.put, List.setIfInBounds_toArray, List.set_cons_zero, List.set_cons_succ]
              refine takeY (i := 9) (some 51) (v := .pointer (some ⟨N13, 1, none⟩)) rfl rfl (by kernel_rfl) (by kernel_rfl) (by kernel_rfl) (fun _ _ _ h => h) (by rfl) (fun w' hS => by clear hS; go_simp) hS ?_
              simp only [Act.put, List.setIfInBounds_toArray, List.set_cons_zero, List.set_cons_succ]
              refine takeY (i := 10) (some 52) (v := .int .i64 (kyPf x1.1).len) rfl rfl (by kernel_rfl) (by kernel_rfl) (by kernel_rfl) (fun _ _ _ h => h) (by rfl) (fun w' hS => by (have c9 : w'.cell? ⟨N13, 1, none⟩ = some (.int .i64 (kyPf x1.1).len) := (hS.1.cell 1).trans rfl; clear hS; go_simp)) hS ?_
              simp only [Act.put, List.setIfInBounds_toArray, List.set_cons_zero, List.set_cons_succ]
              refine takeY (i := 11) (some 53) (v := .pointer (some ⟨x, 0, none⟩)) rfl rfl (by kernel_rfl) (by kernel_rfl) (by kernel_rfl) (fun _ _ _ h => h) (by rfl) (fun w' hS => by clear hS; go_simp) hS ?_
              simp only [Act.put, List.setIfInBounds_toArray, List.set_cons_zero, List.set_cons_succ]
              refine takeY (i := 12) (some 54) (v := .pointer (some ⟨x, 0, none⟩)) rfl rfl (by kernel_rfl) (by kernel_rfl) (by kernel_rfl) (fun _ _ _ h => h) (by rfl) (fun w' hS => by clear hS; go_simp) hS ?_
              simp only [Act.put, List.setIfInBounds_toArray, List.set_cons_zero, List.set_cons_succ]
              refine takeY (i := 13) (some 55) (v := .pointer (some ⟨x, 0, none⟩)) rfl rfl (by kernel_rfl) (by kernel_rfl) (by kernel_rfl) (fun _ _ _ h => h) (by rfl) (fun w' hS => by clear hS; go_simp) hS ?_
              simp only [Act.put, List.setIfInBounds_toArray, List.set_cons_zero, List.set_cons_succ]
              refine takeY (i := 14) (some 56) (v := .slice (some ⟨bA, off, none⟩) m c) rfl rfl (by kernel_rfl) (by kernel_rfl) (by kernel_rfl) (fun _ _ _ h => h) (by rfl) (fun w' hS => by (have c9 : w'.cell? ⟨x, 0, none⟩ = some (.slice (some ⟨bA, off, none⟩) m c) := (hS.2.2.1.cell 0).trans rfl; clear hS; go_simp)) hS ?_
              simp only [Act.put, List.setIfInBounds_toArray, List.set_cons_zero, List.set_cons_succ]
              refine takeY (i := 15) (some 57) (v := .int .i64 (bI (some q))) rfl rfl (by kernel_rfl) (by kernel_rfl) (by kernel_rfl) (fun _ _ _ h => h) (by rfl) (fun w' hS => by clear hS; go_simp) hS ?_
              simp only [Act.put, List.setIfInBounds_toArray, List.set_cons_zero, List.set_cons_succ]
              refine takeY (i := 16) (some 58) (v := .pointer (some ⟨bA, off + q * 19, none⟩)) rfl rfl (by kernel_rfl) (by kernel_rfl) (by kernel_rfl) (fun _ _ _ h => h) (by rfl) (fun w' hS => by clear hS; exact index_i _ _ _ _ rfl bA off m c q rfl rfl HQM.out _) hS ?_
              simp only [Act.put, List.setIfInBounds_toArray, List.set_cons_zero, List.set_cons_succ]
              refine takeY (i := 17) (some 59) (v := .pointer (some ⟨bA, off + q * 19, none⟩)) rfl rfl (by kernel_rfl) (by kernel_rfl) (by kernel_rfl) (fun _ _ _ h => h) (by rfl) (fun w' hS => by clear hS; go_simp) hS ?_
              simp only [Act.put, List.setIfInBounds_toArray, List.set_cons_zero, List.set_cons_succ]
              refine takeY (i := 18) (some 60) (v := .pointer (some ⟨bA, off + q * 19 + 1, none⟩)) rfl rfl (by kernel_rfl) (by kernel_rfl) (by kernel_rfl) (fun _ _ _ h => h) (by rfl) (fun w' hS => by clear hS; go_simp) hS ?_
              simp only [Act.put, List.setIfInBounds_toArray, List.set_cons_zero, List.set_cons_succ]
              refine takeY (i := 19) (some 61) (v := .int .i64 (kyPf yq.1).len) rfl rfl (by kernel_rfl) (by kernel_rfl) (by kernel_rfl) (fun _ _ _ h => h) (by rfl) (fun w' hS => by (have c9 : w'.cell? ⟨bA, off + q * 19 + 1, none⟩ = some (.int .i64 (kyPf yq.1).len) := it_lr (it_read HR.out hS.2.2.2 HR.out.1 HQM.out HY.out); clear hS; go_simp)) hS ?_
              simp only [Act.put, List.setIfInBounds_toArray, List.set_cons_zero, List.set_cons_succ]
              refine takeY (i := 20) (some 62) (v := .bool false) rfl rfl (by kernel_rfl) (by kernel_rfl) (by kernel_rfl) (fun _ _ _ h => h) (by rfl) (fun w' hS => by clear hS; exact gtr_run _ _ _ _ rfl _ _ false (by have := HLL.out; exact decide_eq_false (fun h => this (Int.ofNat_lt.1 h))) rfl rfl _) hS ?_
              simp only [Act.put, List.setIfInBounds_toArray, List.set_cons_zero, List.set_cons_succ]
              refine takeY (i := 21) (some 63) (v := .bool false) rfl rfl (by kernel_rfl) (by kernel_rfl) (by kernel_rfl) (fun _ _ _ h => h) (by rfl) (fun w' hS => by clear hS; go_simp) hS ?_
              simp only [Act.put, List.setIfInBounds_toArray, List.set_cons_zero, List.set_cons_succ]
              refine takeY (i := 22) (some 64) (v := .bool false) rfl rfl (by kernel_rfl) (by kernel_rfl) (by kernel_rfl) (fun _ _ _ h => h) (by rfl) (fun w' hS => by clear hS; go_simp) hS ?_
              simp only [Act.put, List.setIfInBounds_toArray, List.set_cons_zero, List.set_cons_succ]
              clear hS
              refine wpAnyH_done (by kernel_rfl) ?_ _
              have HQ : Hid (Below BL wc W62) := Lib.hid (by rw [← HBL.out]; exact HQc.out)
              have HPn := Lib.hid (bs_less HP.out HY.out HX.out HLL.out)
              go_wp2_with fail
              go_roundw
              case rel => exact ⟨j + 1, some q, by omega, by go_num, rfl, HQ, HPn⟩
              case measure => simp only [intOf]; omega
      · obtain rfl : m = j := by omega
        have HPm : Hid (BsP Pc D D.length bb) := Lib.hid (by rw [HM.out]; exact HP.out)
        have K6w := Lib.hid (K6.out.below HQ.out lt_6)
        clear HP
        cases bb with
        | none =>
          have e9 := bs_end_n HPm.out
          rw [show bI none = -1 from rfl]
          go_wp2_with (refine wpList_v (op := ⟨some 69, _, _, _, _, _⟩) rfl (.agg (pvC 0 0 Z0)) (build_pv0 _ _ rfl _) ?_; refine Hid.out ?_)
          refine Lib.hid ?_
          go_wp2_with (refine wpList_st rfl 32 (.tmp 6) (.tmp 69) rfl N2 0 rfl (.agg (pvC 0 0 Z0)) (pvC 0 0 Z0) rfl rfl info_pv (all_pv _ _ _) K6w.out (Nat.le_of_ble_eq_true rfl) (C' := pvC 0 0 Z0) (pv_over _ _ _ _ _ _) ?_; intro wz q1; refine Hid.out ?_)
          refine Lib.hid ?_
          have K6z := Lib.hid q1.1
          have HBZ : Hid (Below w.heap.size w wz) := Lib.hid ((HB.out.trans (HQ.out.mono le_BL)).trans (q1.2.1 _ (by omega)))
          clear q1
          go_wp2_with fail
          exact bodyPost_ret (results_4 rfl _ _ N2 (pvC 0 0 Z0) (.int .i64 0) (.bool false) (.int .i64 0) Try.underlying32 rfl info_pv rfl rfl rfl rfl K6z.out) rfl ⟨by rw [e9]; rfl, HBZ.out⟩
        | some q =>
          obtain ⟨yq, hy, e9⟩ := bs_end_s HPm.out
          have HY := Lib.hid hy
          have HE9 := Lib.hid e9
          have hqm : q < m := by rw [← HM.out]; exact (List.getElem?_eq_some_iff.1 hy).1
          have HQM := Lib.hid hqm
          obtain ⟨bA, off, rfl, hr⟩ := HRD.out.row (by omega)
          have HR := Lib.hid hr
          have HBA : Hid (bA < w.heap.size) := Lib.hid hr.1
          have hq0 : ¬ (q : Int) < 0 := by omega
          clear hy e9 hqm hr
          rw [show bI (some q) = (q : Int) from rfl]
          have HBq : Hid (Below w.heap.size w wr) := Lib.hid (HB.out.trans (HQ.out.mono le_BL))
          go_wp2_with fail
          have ne_6 : x ≠ N2 := by omega
          clear HQ
          have K6wd := Lib.hid K6w.out.drew
          clear K6w
          refine wp_region_held_drew (S := fun w' => Blk 30 w' x (#[.slice (some ⟨bA, off, none⟩) m c]) ∧ Below w.heap.size w w') (by kernel_rfl) ⟨KXw.out, HBq.out.drew⟩ (fun hS => ?_)
          generalize hW61 : wr.drew = W61 at hS K6wd ⊢
          clear hW61
          clear KXw
          clear HBq
          have K6w := K6wd
          clear K6wd
          have KXw := Lib.hid hS.1
          have HBq := Lib.hid hS.2
          refine takeY (i := 0) (some 70) (v := .pointer (some ⟨x, 0, none⟩)) rfl rfl (by kernel_rfl) (by kernel_rfl) (by kernel_rfl) (fun _ _ _ h => h) (by rfl) (fun w' hS => by clear hS; go_simp) hS ?_
          simp only [Act.put, List.setIfInBounds_toArray, List.set_cons_zero, List.set_cons_succ]
          refine takeY (i := 1) (some 71) (v := .pointer (some ⟨x, 0, none⟩)) rfl rfl (by kernel_rfl) (by kernel_rfl) (by kernel_rfl) (fun _ _ _ h => h) (by rfl) (fun w' hS => by clear hS; go_simp) hS ?_
          simp only [Act.put, List.setIfInBounds_toArray, List.set_cons_zero, List.set_cons_succ]
          refine takeY (i := 2) (some 72) (v := .pointer (some ⟨x, 0, none⟩)) rfl rfl (by kernel_rfl) (by kernel_rfl) (by kernel_rfl) (fun _ _ _ h => h) (by rfl) (fun w' hS => by clear hS; go_simp) hS ?_
          simp only [Act.put, List.setIfInBounds_toArray, List.set_cons_zero, List.set_cons_succ]
          refine takeY (i := 3) (some 73) (v := .slice (some ⟨bA, off, none⟩) m c) rfl rfl (by kernel_rfl) (by kernel_rfl) (by kernel_rfl) (fun _ _ _ h => h) (by rfl) (fun w' hS => by (have c9 : w'.cell? ⟨x, 0, none⟩ = some (.slice (some ⟨bA, off, none⟩) m c) := (hS.1.cell 0).trans rfl; clear hS; go_simp)) hS ?_
          simp only [Act.put, List.setIfInBounds_toArray, List.set_cons_zero, List.set_cons_succ]
          refine takeY (i := 4) (some 74) (v := .int .i64 (q : Int)) rfl rfl (by kernel_rfl) (by kernel_rfl) (by kernel_rfl) (fun _ _ _ h => h) (by rfl) (fun w' hS => by clear hS; go_simp) hS ?_
          simp only [Act.put, List.setIfInBounds_toArray, List.set_cons_zero, List.set_cons_succ]
          refine takeY (i := 5) (some 75) (v := .pointer (some ⟨bA, off + q * 19, none⟩)) rfl rfl (by kernel_rfl) (by kernel_rfl) (by kernel_rfl) (fun _ _ _ h => h) (by rfl) (fun w' hS => by clear hS; exact index_i _ _ _ _ rfl bA off m c q rfl rfl HQM.out _) hS ?_
          simp only [Act.put, List.setIfInBounds_toArray, List.set_cons_zero, List.set_cons_succ]
          refine takeY (i := 6) (some 76) (v := .pointer (some ⟨bA, off + q * 19, none⟩)) rfl rfl (by kernel_rfl) (by kernel_rfl) (by kernel_rfl) (fun _ _ _ h => h) (by rfl) (fun w' hS => by clear hS; go_simp) hS ?_
          simp only [Act.put, List.setIfInBounds_toArray, List.set_cons_zero, List.set_cons_succ]
          refine takeL (i := 7) (some 77) 32 (.tmp 76) bA (off + q * 19) (pfC (kyPf yq.1)) _ rfl rfl (by kernel_rfl) (by kernel_rfl) (by kernel_rfl) (fun _ _ _ h => h) (by rfl) rfl rfl (fun w' hS => it_pfr (it_read HR.out hS.2 HBA.out HQM.out HY.out)) Try.underlying32 rfl (hi_pv _ _ _) hS ?_
          simp only [Act.put, List.setIfInBounds_toArray, List.set_cons_zero, List.set_cons_succ]
          refine takeY (i := 8) (some 78) (v := .pointer (some ⟨x, 0, none⟩)) rfl rfl (by kernel_rfl) (by kernel_rfl) (by kernel_rfl) (fun _ _ _ h => h) (by rfl) (fun w' hS => by clear hS; go_simp) hS ?_
          simp only [Act.put, List.setIfInBounds_toArray, List.set_cons_zero, List.set_cons_succ]
          refine takeY (i := 9) (some 79) (v := .pointer (some ⟨x, 0, none⟩)) rfl rfl (by kernel_rfl) (by kernel_rfl) (by kernel_rfl) (fun _ _ _ h => h) (by rfl) (fun w' hS => by clear hS; go_simp) hS ?_
          simp only [Act.put, List.setIfInBounds_toArray, List.set_cons_zero, List.set_cons_succ]
          refine takeY (i := 10) (some 80) (v := .pointer (some ⟨x, 0, none⟩)) rfl rfl (by kernel_rfl) (by kernel_rfl) (by kernel_rfl) (fun _ _ _ h => h) (by rfl) (fun w' hS => by clear hS; go_simp) hS ?_
          simp only [Act.put, List.setIfInBounds_toArray, List.set_cons_zero, List.set_cons_succ]
          refine takeY (i := 11) (some 81) (v := .slice (some ⟨bA, off, none⟩) m c) rfl rfl (by kernel_rfl) (by kernel_rfl) (by kernel_rfl) (fun _ _ _ h => h) (by rfl) (fun w' hS => by (have c9 : w'.cell? ⟨x, 0, none⟩ = some (.slice (some ⟨bA, off, none⟩) m c) := (hS.1.cell 0).trans rfl; clear hS; go_simp)) hS ?_
          simp only [Act.put, List.setIfInBounds_toArray, List.set_cons_zero, List.set_cons_succ]
          refine takeY (i := 12) (some 82) (v := .int .i64 (q : Int)) rfl rfl (by kernel_rfl) (by kernel_rfl) (by kernel_rfl) (fun _ _ _ h => h) (by rfl) (fun w' hS => by clear hS; go_simp) hS ?_
          simp only [Act.put, List.setIfInBounds_toArray, List.set_cons_zero, List.set_cons_succ]
          refine takeY (i := 13) (some 83) (v := .pointer (some ⟨bA, off + q * 19, none⟩)) rfl rfl (by kernel_rfl) (by kernel_rfl) (by kernel_rfl) (fun _ _ _ h => h) (by rfl) (fun w' hS => by clear hS; exact index_i _ _ _ _ rfl bA off m c q rfl rfl HQM.out _) hS ?_
          simp only [Act.put, List.setIfInBounds_toArray, List.set_cons_zero, List.set_cons_succ]
          refine takeY (i := 14) (some 84) (v := .pointer (some ⟨bA, off + q * 19 + 18, none⟩)) rfl rfl (by kernel_rfl) (by kernel_rfl) (by kernel_rfl) (fun _ _ _ h => h) (by rfl) (fun w' hS => by clear hS; go_simp) hS ?_
          simp only [Act.put, List.setIfInBounds_toArray, List.set_cons_zero, List.set_cons_succ]
          refine takeY (i := 15) (some 85) (v := .int .i64 yq.2) rfl rfl (by kernel_rfl) (by kernel_rfl) (by kernel_rfl) (fun _ _ _ h => h) (by rfl) (fun w' hS => by (have c9 : w'.cell? ⟨bA, off + q * 19 + 18, none⟩ = some (.int .i64 yq.2) := it_vr (it_read HR.out hS.2 HBA.out HQM.out HY.out); clear hS; go_simp)) hS ?_
          simp only [Act.put, List.setIfInBounds_toArray, List.set_cons_zero, List.set_cons_succ]
          refine takeSt (i := 16) 32 (.tmp 6) (.tmp 77) N2 0 (.agg (pfC (kyPf yq.1))) (pfC (kyPf yq.1)) (pfC (kyPf yq.1)) rfl rfl (by kernel_rfl) (by rfl) rfl rfl rfl rfl info_pv (all_pv _ _ _) K6w.out (Nat.le_of_ble_eq_true rfl) (pv_over _ _ _ _ _ _) ?_
          intro W62 q1
          refine ⟨⟨KXw.out.far q1 (by omega), HBq.out.trans (q1.2.1 _ (by omega))⟩, ?_⟩
          simp only [Act.put, List.setIfInBounds_toArray, List.set_cons_zero, List.set_cons_succ]
          have K6wn : Hid (Blk 32 W62 N2 (pfC (kyPf yq.1))) := Lib.hid q1.1
          clear K6w
          have K6w := K6wn
          clear K6wn
          have KXwn := Lib.hid (KXw.out.far q1 (by omega))
          clear KXw
          have KXw := KXwn
          clear KXwn
          have HBqn := Lib.hid (HBq.out.trans (q1.2.1 _ (by omega)))
          clear HBq
          have HBq := HBqn
          clear HBqn
          clear q1 hS
          have hS := (And.intro KXw.out HBq.out)
          refine takeY (i := 17) (some 7) (v := .int .i64 yq.2) rfl rfl (by kernel_rfl) (by kernel_rfl) (by kernel_rfl) (fun _ _ _ h => h) (by rfl) (fun w' hS => by clear hS; go_simp) hS ?_
          simp only [Act.put, List.setIfInBounds_toArray, List.set_cons_zero, List.set_cons_succ]
          refine takeY (i := 18) (some 8) (v := .bool true) rfl rfl (by kernel_rfl) (by kernel_rfl) (by kernel_rfl) (fun _ _ _ h => h) (by rfl) (fun w' hS => by clear hS; go_simp) hS ?_
          simp only [Act.put, List.setIfInBounds_toArray, List.set_cons_zero, List.set_cons_succ]
          refine takeY (i := 19) (some 9) (v := .int .i64 0) rfl rfl (by kernel_rfl) (by kernel_rfl) (by kernel_rfl) (fun _ _ _ h => h) (by rfl) (fun w' hS => by clear hS; go_simp) hS ?_
          simp only [Act.put, List.setIfInBounds_toArray, List.set_cons_zero, List.set_cons_succ]
          clear hS
          refine wpAnyH_done (by kernel_rfl) ?_ _
          go_wp2_with fail
          exact bodyPost_ret (results_4 rfl _ _ N2 (pfC (kyPf yq.1)) (.int .i64 yq.2) (.bool true) (.int .i64 0) Try.underlying32 rfl info_pv rfl rfl rfl rfl K6w.out) rfl ⟨by rw [HE9.out]; rfl, HBq.out⟩
theorem docFind_any (x B s : Nat) (T : Ts) (fam : Int) (z : Nat → Int) (hz : Bytes z) (w : World) (hT : TsOk T) (h : DocAt w x T.doc) (hl : T.doc.length ≤ 1000) : Calls Try.prog 50 #[.pointer (some ⟨x, 0, none⟩), .int .u8 fam, .agg (agC z)] w fun e w' => e = .returned (faV (T.FA fam z)) ∧ Below w.heap.size w w' := by
  have key : ∀ pl, faR pl (T.F pl z) = fqR pl (bst (cvQ (whK pl z)) none T.doc) := fun pl => by
    rw [doc_find hT pl z]
    rcases bst_spec (cvQ (pl, btP (lenB pl) (whZ pl z))) T.doc none with ⟨g1, _⟩ | ⟨y, _, g2, g3, _, _⟩
    · unfold fnQ whK
      rw [g1]; rfl
    · unfold fnQ whK
      rw [g2]
      unfold cvQ at g3
      rw [decide_eq_true_iff] at g3
      obtain ⟨e1, _⟩ := g3
      show ((⟨famB pl, (y.1.2.length : Nat), zOf y.1.2⟩ : Pf), y.2, true, (0 : Int)) = (kyPf y.1, y.2, true, 0)
      unfold kyPf
      rw [e1]
  unfold Ts.FA
  by_cases h4 : fam = 4
  · rw [if_pos h4, h4, key]
    exact docFind_4 x T.doc z hz w h hl
  rw [if_neg h4]
  by_cases h6 : fam = 6
  · rw [if_pos h6, h6, key]
    exact docFind_6 x T.doc z hz w h hl
  rw [if_neg h6]
  exact docFind_bad x fam z ⟨h4, h6⟩ w
end Go.Proofs.Ytldgfjcdlkbngaa
/- A trie looks as the document's does. Each theorem states its conditions. -/
namespace Go.Proofs.Ytldgfjcdlkbngaa
open Go.RowKit
set_option linter.unusedVariables false
set_option linter.unusedSimpArgs false

theorem dgV_doc {T : Ts} (ho : TsOk T) (k : Option Ky) : dgV T.doc k = getQ T k := by
  cases k with
  | none => rfl
  | some k => show getV (lk k T.doc) = getV (T.G k); rw [doc_lk ho]
theorem getQ_ex (T : Ts) (k : Option Ky) : ∃ (a : Int) (b : Bool) (e : Int), getQ T k = .tuple #[.int .i64 a, .bool b, .int .i64 e] := by
  cases k with
  | none => exact ⟨_, _, _, rfl⟩
  | some k =>
    show ∃ (a : Int) (b : Bool) (e : Int), getV (T.G k) = .tuple #[.int .i64 a, .bool b, .int .i64 e]
    cases T.G k with
    | none => exact ⟨_, _, _, rfl⟩
    | some v => exact ⟨_, _, _, rfl⟩

/-- what the document's list becomes -/
def insD (D : List It) (k : Option Ky) (v : Int) : List It := match k with
  | none => D
  | some k => insL k v (wo k D)
def remD (D : List It) (k : Option Ky) : List It := match k with
  | none => D
  | some k => if lk k D = none then D else wo k D
theorem doc_same {T T' : Ts} (ho : TsOk T) (ho' : TsOk T') (hg : ∀ q, T'.G q = T.G q) : T'.doc = T.doc :=
  asc_eq (doc_asc ho') (doc_asc ho) fun x => by
    obtain ⟨q, u⟩ := x
    rw [doc_mem ho', doc_mem ho, hg]
theorem doc_insD {B s : Nat} {T T' : Ts} {k : Option Ky} {v : Int} {w w' : World} (hT : TsAt w B s T) (n : TsN B s T T' k (some v) w w') : T'.doc = insD T.doc k v := by
  cases k with
  | none => exact doc_same hT.ok n.at_.ok (fun q => by rw [n.g, if_neg (by simp)])
  | some k => exact doc_ins hT.ok n.at_.ok n.g
theorem doc_remD {B s : Nat} {T T' : Ts} {k : Option Ky} {w w' : World} (hT : TsAt w B s T) (n : TsN B s T T' k none w w') : T'.doc = remD T.doc k := by
  cases k with
  | none => exact doc_same hT.ok n.at_.ok (fun q => by rw [n.g, if_neg (by simp)])
  | some k =>
    unfold remD
    simp only [doc_lk hT.ok]
    split
    · rename_i h
      refine doc_same hT.ok n.at_.ok (fun q => ?_)
      rw [n.g]
      split
      · rename_i e; rw [← Option.some.inj e, h]
      · rfl
    · exact doc_del hT.ok n.at_.ok n.g
theorem insE_eq (fam len : Int) (z : Nat → Int) : (if Form fam len z then (0 : Int) else 3) = if kyP fam len z = none then 3 else 0 := by
  by_cases h : Form fam len z
  · obtain ⟨n, rfl, hn⟩ := form_nat h
    obtain ⟨pl, rfl, e⟩ := ky_yes h
    rw [if_pos h, e, if_neg (by simp)]
  · rw [if_neg h, ky_no h, if_pos rfl]
theorem remE_eq {T : Ts} (ho : TsOk T) (k : Option Ky) : remE T k = (match k with | none => 3 | some k => if lk k T.doc = none then 6 else 0) := by
  cases k with
  | none => rfl
  | some k => show (if T.G k = none then (6 : Int) else 0) = if lk k T.doc = none then 6 else 0; rw [doc_lk ho]
theorem neqI_run (o : Oper) (e : Operand → Value) (x y : Operand) (ho : o.op = .binOp .neq 3 x y 3) (m : Int) (h0 : e x = .int .i64 m) (h1 : e y = .int .i64 m) (W : World) : (execOp e o).run Try.prog W = .ok (.value (.bool false)) W := by
  unfold execOp
  simp only [ho, h0, h1]
  simp [go_sem]
theorem bld_rt (o : Oper) (e : Operand → Value) (ho : o.op = .build 30 #[]) (W : World) : (execOp e o).run Try.prog W = .ok (.value (.agg #[.slice none 0 0])) W := by
  unfold execOp
  simp only [ho]
  kernel_rfl
theorem DocAt.drew {w : World} {x : Nat} {D : List It} (h : DocAt w x D) : DocAt w.drew x D := h.below ((Below.refl _ w).drew)
theorem DocAt.far {w w' : World} {x g : Nat} {t : TypeId} {D : List It} {C E : Array Value} (h : DocAt w x D) (hb : Blk t w g E) (h1 : t ≠ 30) (h2 : t ≠ 96) (q : Stored w w' g C t) : DocAt w' x D := by
  have ne : ∀ (t' : TypeId) (b : Nat) (cur : Array Value), Blk t' w b cur → t ≠ t' → b ≠ g := fun t' b cur hc hn e => by
    subst e
    have e1 : w.heap[b]? = _ := hb
    have e2 : w.heap[b]? = _ := hc
    rw [e1] at e2
    injection e2 with e2
    injection e2 with _ e2 _
    exact hn e2
  obtain ⟨A, c, hk, _⟩ := h.ex
  exact h.keep (q.2.2 x (ne _ x _ hk h1)) fun b cur hc => q.2.2 b (ne _ b cur hc h2)
theorem TsAt.farT {w w' : World} {B s g : Nat} {t : TypeId} {T : Ts} {C E : Array Value} (hT : TsAt w B s T) (hb : Blk t w g E) (h1 : t ≠ 106) (h2 : t ≠ 90) (q : Stored w w' g C t) : TsAt w' B s T := by
  have h9 := t_ne hT hb h1 h2
  refine hT.kp (S := [g]) ((Kp.refl _ w).st q (.inl (by simp))) (fun e => h9 ?_) (fun y hy e => h9 ?_)
  · rw [← List.mem_singleton.1 e]; exact List.mem_cons_self ..
  · rw [← List.mem_singleton.1 e]; exact List.mem_cons_of_mem _ hy
theorem own_blk {w : World} {B n c : Nat} {A : Option Addr} {C : Nat → Array Value} (h : OwnR w B 32 18 (.slice A n c) n C) : ∃ g, 0 < n → A = some ⟨g, 0, none⟩ ∧ B ≤ g ∧ ∃ cur, Blk 32 w g cur ∧ n * 18 ≤ cur.size := by
  rcases h with ⟨_, ⟨_, h2⟩ | ⟨g, cap, cur, e1, e2, e3, e4, e5, e6, _⟩⟩
  · exact ⟨0, fun h => by omega⟩
  · injection e1 with e7 e8 e9
    exact ⟨g, fun _ => ⟨e7, e2, cur, e3, by rw [e6]; exact Nat.mul_le_mul_right 18 e4⟩⟩
theorem putMany_sizeP (vs : List Value) : ∀ (o : Nat) (cur : Array Value), (putMany cur o vs).size = cur.size := by
  induction vs with
  | nil => intro o cur; rfl
  | cons v vs ih => intro o cur; unfold putMany; rw [ih]; simp
set_option maxHeartbeats 16000000 in
set_option maxRecDepth 100000 in
theorem looks_any (x B s : Nat) (T : Ts) (k fam v : Int) (p : Pf) (a : Nat → Int) (hp : Bytes p.z) (ha : Bytes a) (w : World) (hT : TsAt w B s T) (hX : DocAt w x T.doc) (hl : T.doc.length ≤ 1000) : Calls Try.prog 18 #[.pointer (some ⟨s, 0, none⟩), .pointer (some ⟨x, 0, none⟩), .agg (opC k p v), .int .u8 fam, .agg (agC a)] w fun e w' => e = .returned (.bool true) ∧ Below w.heap.size w w' := by
  have HG := Lib.hid (fun W (hW : Below w.heap.size w W) => get_T B s T p.fam p.len p.z hp W (hT.below hW hT.lt))
  have HD := Lib.hid (fun W (hW : Below w.heap.size w W) => docGet_any x T.doc p.fam p.len p.z hp W (hX.below hW) hl)
  have HF1 := Lib.hid (fun W (hW : Below w.heap.size w W) => find_A B s T fam a ha W (hT.below hW hT.lt))
  have HE1 := Lib.hid (fun W (hW : Below w.heap.size w W) => docFind_any x B s T fam a ha W hT.ok (hX.below hW) hl)
  have HF2 := Lib.hid (fun W (hW : Below w.heap.size w W) => find_A B s T p.fam p.z hp W (hT.below hW hT.lt))
  have HE2 := Lib.hid (fun W (hW : Below w.heap.size w W) => docFind_any x B s T p.fam p.z hp W hT.ok (hX.below hW) hl)
  have HB1 := Lib.hid (FA_b T fam a)
  have HB2 := Lib.hid (FA_b T p.fam p.z)
  simp only [dgV_doc hT.ok] at HD
  obtain ⟨ga, gb, ge, hg⟩ := getQ_ex T (kyP p.fam p.len p.z)
  simp only [hg] at HG HD
  obtain ⟨Q1, hQ1⟩ : ∃ Q, T.FA fam a = Q := ⟨_, rfl⟩
  obtain ⟨Q2, hQ2⟩ : ∃ Q, T.FA p.fam p.z = Q := ⟨_, rfl⟩
  rw [hQ1] at HF1 HE1 HB1
  rw [hQ2] at HF2 HE2 HB2
  obtain ⟨P1, v1, d1, e1⟩ := Q1
  obtain ⟨P2, v2, d2, e2⟩ := Q2
  simp only [show faV (P1, v1, d1, e1) = .tuple #[.agg (pfC P1), .int .i64 v1, .bool d1, .int .i64 e1] from rfl] at HF1 HE1
  simp only [show faV (P2, v2, d2, e2) = .tuple #[.agg (pfC P2), .int .i64 v2, .bool d2, .int .i64 e2] from rfl] at HF2 HE2
  have HP1 : Hid (Bytes P1.z) := HB1
  have HP2 : Hid (Bytes P2.z) := HB2
  clear hp ha hT hX hl hg hQ1 hQ2 HB1 HB2
  go_enter Try.func18, Try.ntmps18
  have HB := Lib.hid (Below.refl w.heap.size w)
  obtain ⟨N1, hN1⟩ : ∃ N, w.heap.size = N := ⟨_, rfl⟩
  have HN1 := Lib.hid hN1
  clear hN1
  go_wp2_with (refine wpList_box (op := ⟨some 7, _, _, _, _, _⟩) rfl 34 (.tmp 2) rfl (opC k p v) rfl N1 HN1.out ?_; intro w1 k1 b1 s1; refine Hid.out ?_)
  refine Lib.hid ?_
  have K7 := Lib.hid k1
  clear k1
  have le_HB_N1 : w.heap.size ≤ N1 := by rw [← HN1.out]; exact HB.out.size
  have HBn := Lib.hid (HB.out.trans (b1.mono HB.out.size))
  clear HB
  have HB := HBn
  clear HBn
  clear b1 HN1
  obtain ⟨N2, hN2⟩ : ∃ N, w1.heap.size = N := ⟨_, rfl⟩
  have HN2 := Lib.hid hN2
  clear hN2
  go_wp2_with (refine wpList_box (op := ⟨some 9, _, _, _, _, _⟩) rfl 23 (.tmp 4) rfl (agC a) rfl N2 HN2.out ?_; intro w2 k1 b1 s1; refine Hid.out ?_)
  refine Lib.hid ?_
  have K9 := Lib.hid k1
  clear k1
  have lt_N1_N2 : N1 < N2 := by rw [← HN2.out]; exact K7.out.lt
  have le_HB_N2 : w.heap.size ≤ N2 := by rw [← HN2.out]; exact HB.out.size
  have K7n := Lib.hid (K7.out.below b1 K7.out.lt)
  clear K7
  have K7 := K7n
  clear K7n
  have HBn := Lib.hid (HB.out.trans (b1.mono HB.out.size))
  clear HB
  have HB := HBn
  clear HBn
  clear b1 HN2
  go_wp2_with (refine wpList_ld (op := ⟨some 36, _, _, _, _, _⟩) (by rfl) 32 (.tmp 35) rfl N1 1 rfl (pfC p) _ K7.out.oppv Try.underlying32 rfl (hi_pv _ _ _) ?_; refine Hid.out ?_)
  refine Lib.hid ?_
  go_wp2_with fail
  refine (HG.out _ HB.out).mono ?_
  rintro e w3 ⟨rfl, b1⟩
  have K7n := Lib.hid (K7.out.below b1 K7.out.lt)
  clear K7
  have K7 := K7n
  clear K7n
  have K9n := Lib.hid (K9.out.below b1 K9.out.lt)
  clear K9
  have K9 := K9n
  clear K9n
  have HBn := Lib.hid (HB.out.trans (b1.mono HB.out.size))
  clear HB
  have HB := HBn
  clear HBn
  clear b1
  go_wp2_with (refine wpList_ld (op := ⟨some 44, _, _, _, _, _⟩) (by rfl) 32 (.tmp 43) rfl N1 1 rfl (pfC p) _ K7.out.oppv Try.underlying32 rfl (hi_pv _ _ _) ?_; refine Hid.out ?_)
  refine Lib.hid ?_
  go_wp2_with fail
  refine (HD.out _ HB.out).mono ?_
  rintro e w4 ⟨rfl, b1⟩
  have K7n := Lib.hid (K7.out.below b1 K7.out.lt)
  clear K7
  have K7 := K7n
  clear K7n
  have K9n := Lib.hid (K9.out.below b1 K9.out.lt)
  clear K9
  have K9 := K9n
  clear K9n
  have HBn := Lib.hid (HB.out.trans (b1.mono HB.out.size))
  clear HB
  have HB := HBn
  clear HBn
  clear b1
  go_wp2_with (refine wpList_ld (op := ⟨some 52, _, _, _, _, _⟩) (by rfl) 23 (.tmp 9) rfl N2 0 rfl (agC a) _ K9.out.all Try.underlying23 rfl (hi_ag _) ?_; refine Hid.out ?_)
  refine Lib.hid ?_
  go_wp2_with fail
  refine (HF1.out _ HB.out).mono ?_
  rintro e w5 ⟨rfl, b1⟩
  have K7n := Lib.hid (K7.out.below b1 K7.out.lt)
  clear K7
  have K7 := K7n
  clear K7n
  have K9n := Lib.hid (K9.out.below b1 K9.out.lt)
  clear K9
  have K9 := K9n
  clear K9n
  have HBn := Lib.hid (HB.out.trans (b1.mono HB.out.size))
  clear HB
  have HB := HBn
  clear HBn
  clear b1
  obtain ⟨N6, hN6⟩ : ∃ N, w5.heap.size = N := ⟨_, rfl⟩
  have HN6 := Lib.hid hN6
  clear hN6
  go_wp2_with (refine wpList_new (op := ⟨some 17, _, _, _, _, _⟩) rfl 32 rfl (pvC 0 0 Z0) zero_pvT N6 HN6.out ?_; intro w6 k1 b1 s1; refine Hid.out ?_)
  refine Lib.hid ?_
  have K17 := Lib.hid k1
  clear k1
  have lt_N1_N6 : N1 < N6 := by rw [← HN6.out]; exact K7.out.lt
  have lt_N2_N6 : N2 < N6 := by rw [← HN6.out]; exact K9.out.lt
  have le_HB_N6 : w.heap.size ≤ N6 := by rw [← HN6.out]; exact HB.out.size
  have K7n := Lib.hid (K7.out.below b1 K7.out.lt)
  clear K7
  have K7 := K7n
  clear K7n
  have K9n := Lib.hid (K9.out.below b1 K9.out.lt)
  clear K9
  have K9 := K9n
  clear K9n
  have HBn := Lib.hid (HB.out.trans (b1.mono HB.out.size))
  clear HB
  have HB := HBn
  clear HBn
  clear b1 HN6
  go_wp2_with (refine wpList_st rfl 32 (.tmp 17) (.tmp 54) rfl N6 0 rfl (.agg (pfC P1)) (pfC P1) rfl rfl info_pv (all_pv _ _ _) K17.out (Nat.le_of_ble_eq_true rfl) (C' := pfC P1) (pv_over _ _ _ _ _ _) ?_; intro w7 q1; refine Hid.out ?_)
  refine Lib.hid ?_
  have K7n := Lib.hid (K7.out.far q1 (by omega))
  clear K7
  have K7 := K7n
  clear K7n
  have K9n := Lib.hid (K9.out.far q1 (by omega))
  clear K9
  have K9 := K9n
  clear K9n
  have HBn := Lib.hid (HB.out.trans (q1.2.1 _ (by omega)))
  clear HB
  have HB := HBn
  clear HBn
  have K17n : Hid (Blk 32 w7 N6 (pfC P1)) := Lib.hid q1.1
  clear K17
  have K17 := K17n
  clear K17n q1
  go_wp2_with (refine wpList_ld (op := ⟨some 61, _, _, _, _, _⟩) (by rfl) 23 (.tmp 9) rfl N2 0 rfl (agC a) _ K9.out.all Try.underlying23 rfl (hi_ag _) ?_; refine Hid.out ?_)
  refine Lib.hid ?_
  go_wp2_with fail
  refine (HE1.out _ HB.out).mono ?_
  rintro e w8 ⟨rfl, b1⟩
  have K7n := Lib.hid (K7.out.below b1 K7.out.lt)
  clear K7
  have K7 := K7n
  clear K7n
  have K9n := Lib.hid (K9.out.below b1 K9.out.lt)
  clear K9
  have K9 := K9n
  clear K9n
  have K17n := Lib.hid (K17.out.below b1 K17.out.lt)
  clear K17
  have K17 := K17n
  clear K17n
  have HBn := Lib.hid (HB.out.trans (b1.mono HB.out.size))
  clear HB
  have HB := HBn
  clear HBn
  clear b1
  obtain ⟨N9, hN9⟩ : ∃ N, w8.heap.size = N := ⟨_, rfl⟩
  have HN9 := Lib.hid hN9
  clear hN9
  go_wp2_with (refine wpList_new (op := ⟨some 21, _, _, _, _, _⟩) rfl 32 rfl (pvC 0 0 Z0) zero_pvT N9 HN9.out ?_; intro w9 k1 b1 s1; refine Hid.out ?_)
  refine Lib.hid ?_
  have K21 := Lib.hid k1
  clear k1
  have lt_N1_N9 : N1 < N9 := by rw [← HN9.out]; exact K7.out.lt
  have lt_N2_N9 : N2 < N9 := by rw [← HN9.out]; exact K9.out.lt
  have lt_N6_N9 : N6 < N9 := by rw [← HN9.out]; exact K17.out.lt
  have le_HB_N9 : w.heap.size ≤ N9 := by rw [← HN9.out]; exact HB.out.size
  have K7n := Lib.hid (K7.out.below b1 K7.out.lt)
  clear K7
  have K7 := K7n
  clear K7n
  have K9n := Lib.hid (K9.out.below b1 K9.out.lt)
  clear K9
  have K9 := K9n
  clear K9n
  have K17n := Lib.hid (K17.out.below b1 K17.out.lt)
  clear K17
  have K17 := K17n
  clear K17n
  have HBn := Lib.hid (HB.out.trans (b1.mono HB.out.size))
  clear HB
  have HB := HBn
  clear HBn
  clear b1 HN9
  go_wp2_with (refine wpList_st rfl 32 (.tmp 21) (.tmp 63) rfl N9 0 rfl (.agg (pfC P1)) (pfC P1) rfl rfl info_pv (all_pv _ _ _) K21.out (Nat.le_of_ble_eq_true rfl) (C' := pfC P1) (pv_over _ _ _ _ _ _) ?_; intro w10 q1; refine Hid.out ?_)
  refine Lib.hid ?_
  have K7n := Lib.hid (K7.out.far q1 (by omega))
  clear K7
  have K7 := K7n
  clear K7n
  have K9n := Lib.hid (K9.out.far q1 (by omega))
  clear K9
  have K9 := K9n
  clear K9n
  have K17n := Lib.hid (K17.out.far q1 (by omega))
  clear K17
  have K17 := K17n
  clear K17n
  have HBn := Lib.hid (HB.out.trans (q1.2.1 _ (by omega)))
  clear HB
  have HB := HBn
  clear HBn
  have K21n : Hid (Blk 32 w10 N9 (pfC P1)) := Lib.hid q1.1
  clear K21
  have K21 := K21n
  clear K21n q1
  have cf : w10.cell? ⟨N1, 1, none⟩ = some (.int .u8 p.fam) := (K7.out.cell 1).trans rfl
  go_wp2_with (refine wpList_ld (op := ⟨some 74, _, _, _, _, _⟩) (by rfl) 23 (.tmp 73) rfl N1 3 rfl (agC p.z) _ K7.out.opag Try.underlying23 rfl (hi_ag _) ?_; refine Hid.out ?_)
  refine Lib.hid ?_
  clear cf
  go_wp2_with fail
  refine (HF2.out _ HB.out).mono ?_
  rintro e w11 ⟨rfl, b1⟩
  have K7n := Lib.hid (K7.out.below b1 K7.out.lt)
  clear K7
  have K7 := K7n
  clear K7n
  have K9n := Lib.hid (K9.out.below b1 K9.out.lt)
  clear K9
  have K9 := K9n
  clear K9n
  have K17n := Lib.hid (K17.out.below b1 K17.out.lt)
  clear K17
  have K17 := K17n
  clear K17n
  have K21n := Lib.hid (K21.out.below b1 K21.out.lt)
  clear K21
  have K21 := K21n
  clear K21n
  have HBn := Lib.hid (HB.out.trans (b1.mono HB.out.size))
  clear HB
  have HB := HBn
  clear HBn
  clear b1
  obtain ⟨N12, hN12⟩ : ∃ N, w11.heap.size = N := ⟨_, rfl⟩
  have HN12 := Lib.hid hN12
  clear hN12
  go_wp2_with (refine wpList_new (op := ⟨some 25, _, _, _, _, _⟩) rfl 32 rfl (pvC 0 0 Z0) zero_pvT N12 HN12.out ?_; intro w12 k1 b1 s1; refine Hid.out ?_)
  refine Lib.hid ?_
  have K25 := Lib.hid k1
  clear k1
  have lt_N1_N12 : N1 < N12 := by rw [← HN12.out]; exact K7.out.lt
  have lt_N2_N12 : N2 < N12 := by rw [← HN12.out]; exact K9.out.lt
  have lt_N6_N12 : N6 < N12 := by rw [← HN12.out]; exact K17.out.lt
  have lt_N9_N12 : N9 < N12 := by rw [← HN12.out]; exact K21.out.lt
  have le_HB_N12 : w.heap.size ≤ N12 := by rw [← HN12.out]; exact HB.out.size
  have K7n := Lib.hid (K7.out.below b1 K7.out.lt)
  clear K7
  have K7 := K7n
  clear K7n
  have K9n := Lib.hid (K9.out.below b1 K9.out.lt)
  clear K9
  have K9 := K9n
  clear K9n
  have K17n := Lib.hid (K17.out.below b1 K17.out.lt)
  clear K17
  have K17 := K17n
  clear K17n
  have K21n := Lib.hid (K21.out.below b1 K21.out.lt)
  clear K21
  have K21 := K21n
  clear K21n
  have HBn := Lib.hid (HB.out.trans (b1.mono HB.out.size))
  clear HB
  have HB := HBn
  clear HBn
  clear b1 HN12
  go_wp2_with (refine wpList_st rfl 32 (.tmp 25) (.tmp 76) rfl N12 0 rfl (.agg (pfC P2)) (pfC P2) rfl rfl info_pv (all_pv _ _ _) K25.out (Nat.le_of_ble_eq_true rfl) (C' := pfC P2) (pv_over _ _ _ _ _ _) ?_; intro w13 q1; refine Hid.out ?_)
  refine Lib.hid ?_
  have K7n := Lib.hid (K7.out.far q1 (by omega))
  clear K7
  have K7 := K7n
  clear K7n
  have K9n := Lib.hid (K9.out.far q1 (by omega))
  clear K9
  have K9 := K9n
  clear K9n
  have K17n := Lib.hid (K17.out.far q1 (by omega))
  clear K17
  have K17 := K17n
  clear K17n
  have K21n := Lib.hid (K21.out.far q1 (by omega))
  clear K21
  have K21 := K21n
  clear K21n
  have HBn := Lib.hid (HB.out.trans (q1.2.1 _ (by omega)))
  clear HB
  have HB := HBn
  clear HBn
  have K25n : Hid (Blk 32 w13 N12 (pfC P2)) := Lib.hid q1.1
  clear K25
  have K25 := K25n
  clear K25n q1
  have cf : w13.cell? ⟨N1, 1, none⟩ = some (.int .u8 p.fam) := (K7.out.cell 1).trans rfl
  go_wp2_with (refine wpList_ld (op := ⟨some 87, _, _, _, _, _⟩) (by rfl) 23 (.tmp 86) rfl N1 3 rfl (agC p.z) _ K7.out.opag Try.underlying23 rfl (hi_ag _) ?_; refine Hid.out ?_)
  refine Lib.hid ?_
  clear cf
  go_wp2_with fail
  refine (HE2.out _ HB.out).mono ?_
  rintro e w14 ⟨rfl, b1⟩
  have K7n := Lib.hid (K7.out.below b1 K7.out.lt)
  clear K7
  have K7 := K7n
  clear K7n
  have K9n := Lib.hid (K9.out.below b1 K9.out.lt)
  clear K9
  have K9 := K9n
  clear K9n
  have K17n := Lib.hid (K17.out.below b1 K17.out.lt)
  clear K17
  have K17 := K17n
  clear K17n
  have K21n := Lib.hid (K21.out.below b1 K21.out.lt)
  clear K21
  have K21 := K21n
  clear K21n
  have K25n := Lib.hid (K25.out.below b1 K25.out.lt)
  clear K25
  have K25 := K25n
  clear K25n
  have HBn := Lib.hid (HB.out.trans (b1.mono HB.out.size))
  clear HB
  have HB := HBn
  clear HBn
  clear b1
  obtain ⟨N15, hN15⟩ : ∃ N, w14.heap.size = N := ⟨_, rfl⟩
  have HN15 := Lib.hid hN15
  clear hN15
  go_wp2_with (refine wpList_new (op := ⟨some 29, _, _, _, _, _⟩) rfl 32 rfl (pvC 0 0 Z0) zero_pvT N15 HN15.out ?_; intro w15 k1 b1 s1; refine Hid.out ?_)
  refine Lib.hid ?_
  have K29 := Lib.hid k1
  clear k1
  have lt_N1_N15 : N1 < N15 := by rw [← HN15.out]; exact K7.out.lt
  have lt_N2_N15 : N2 < N15 := by rw [← HN15.out]; exact K9.out.lt
  have lt_N6_N15 : N6 < N15 := by rw [← HN15.out]; exact K17.out.lt
  have lt_N9_N15 : N9 < N15 := by rw [← HN15.out]; exact K21.out.lt
  have lt_N12_N15 : N12 < N15 := by rw [← HN15.out]; exact K25.out.lt
  have le_HB_N15 : w.heap.size ≤ N15 := by rw [← HN15.out]; exact HB.out.size
  have K7n := Lib.hid (K7.out.below b1 K7.out.lt)
  clear K7
  have K7 := K7n
  clear K7n
  have K9n := Lib.hid (K9.out.below b1 K9.out.lt)
  clear K9
  have K9 := K9n
  clear K9n
  have K17n := Lib.hid (K17.out.below b1 K17.out.lt)
  clear K17
  have K17 := K17n
  clear K17n
  have K21n := Lib.hid (K21.out.below b1 K21.out.lt)
  clear K21
  have K21 := K21n
  clear K21n
  have K25n := Lib.hid (K25.out.below b1 K25.out.lt)
  clear K25
  have K25 := K25n
  clear K25n
  have HBn := Lib.hid (HB.out.trans (b1.mono HB.out.size))
  clear HB
  have HB := HBn
  clear HBn
  clear b1 HN15
  go_wp2_with (refine wpList_st rfl 32 (.tmp 29) (.tmp 89) rfl N15 0 rfl (.agg (pfC P2)) (pfC P2) rfl rfl info_pv (all_pv _ _ _) K29.out (Nat.le_of_ble_eq_true rfl) (C' := pfC P2) (pv_over _ _ _ _ _ _) ?_; intro w16 q1; refine Hid.out ?_)
  refine Lib.hid ?_
  have K7n := Lib.hid (K7.out.far q1 (by omega))
  clear K7
  have K7 := K7n
  clear K7n
  have K9n := Lib.hid (K9.out.far q1 (by omega))
  clear K9
  have K9 := K9n
  clear K9n
  have K17n := Lib.hid (K17.out.far q1 (by omega))
  clear K17
  have K17 := K17n
  clear K17n
  have K21n := Lib.hid (K21.out.far q1 (by omega))
  clear K21
  have K21 := K21n
  clear K21n
  have K25n := Lib.hid (K25.out.far q1 (by omega))
  clear K25
  have K25 := K25n
  clear K25n
  have HBn := Lib.hid (HB.out.trans (q1.2.1 _ (by omega)))
  clear HB
  have HB := HBn
  clear HBn
  have K29n : Hid (Blk 32 w16 N15 (pfC P2)) := Lib.hid q1.1
  clear K29
  have K29 := K29n
  clear K29n q1
  go_wp2_with (refine wpList_v (op := ⟨some 95, _, _, _, _, _⟩) rfl (.bool true) (eqI_run _ _ _ _ _ rfl ga rfl rfl _) ?_; refine Hid.out ?_)
  refine Lib.hid ?_
  go_wp2_with (refine wpList_gv (op := ⟨some 99, _, _, _, _, _⟩) (.bool true) (by rfl) (eqB_run _ _ _ _ rfl gb rfl rfl _) ?_; refine Hid.out ?_)
  refine Lib.hid ?_
  go_wp2_with (refine wpList_gv (op := ⟨some 104, _, _, _, _, _⟩) (.bool true) (by rfl) (eqI_run _ _ _ _ _ rfl ge rfl rfl _) ?_; refine Hid.out ?_)
  refine Lib.hid ?_
  go_wp2_with (refine wpList_ld (op := ⟨some 107, _, _, _, _, _⟩) (by rfl) 32 (.tmp 17) rfl N6 0 rfl (pfC P1) _ K17.out.all Try.underlying32 rfl (hi_pv _ _ _) ?_; refine Hid.out ?_)
  refine Lib.hid ?_
  go_wp2_with (refine wpList_ld (op := ⟨some 108, _, _, _, _, _⟩) (by rfl) 32 (.tmp 21) rfl N9 0 rfl (pfC P1) _ K21.out.all Try.underlying32 rfl (hi_pv _ _ _) ?_; refine Hid.out ?_)
  refine Lib.hid ?_
  go_wp2_with (refine wpList_gv (op := ⟨some 109, _, _, _, _, _⟩) (.bool true) (by rfl) (eql_same _ _ _ _ rfl P1.fam P1.len P1.z HP1.out rfl rfl _) ?_; refine Hid.out ?_)
  refine Lib.hid ?_
  go_wp2_with (refine wpList_gv (op := ⟨some 114, _, _, _, _, _⟩) (.bool true) (by rfl) (eqI_run _ _ _ _ _ rfl v1 rfl rfl _) ?_; refine Hid.out ?_)
  refine Lib.hid ?_
  go_wp2_with (refine wpList_gv (op := ⟨some 119, _, _, _, _, _⟩) (.bool true) (by rfl) (eqB_run _ _ _ _ rfl d1 rfl rfl _) ?_; refine Hid.out ?_)
  refine Lib.hid ?_
  go_wp2_with (refine wpList_gv (op := ⟨some 124, _, _, _, _, _⟩) (.bool true) (by rfl) (eqI_run _ _ _ _ _ rfl e1 rfl rfl _) ?_; refine Hid.out ?_)
  refine Lib.hid ?_
  go_wp2_with (refine wpList_ld (op := ⟨some 127, _, _, _, _, _⟩) (by rfl) 32 (.tmp 25) rfl N12 0 rfl (pfC P2) _ K25.out.all Try.underlying32 rfl (hi_pv _ _ _) ?_; refine Hid.out ?_)
  refine Lib.hid ?_
  go_wp2_with (refine wpList_ld (op := ⟨some 128, _, _, _, _, _⟩) (by rfl) 32 (.tmp 29) rfl N15 0 rfl (pfC P2) _ K29.out.all Try.underlying32 rfl (hi_pv _ _ _) ?_; refine Hid.out ?_)
  refine Lib.hid ?_
  go_wp2_with (refine wpList_gv (op := ⟨some 129, _, _, _, _, _⟩) (.bool true) (by rfl) (eql_same _ _ _ _ rfl P2.fam P2.len P2.z HP2.out rfl rfl _) ?_; refine Hid.out ?_)
  refine Lib.hid ?_
  go_wp2_with (refine wpList_gv (op := ⟨some 134, _, _, _, _, _⟩) (.bool true) (by rfl) (eqI_run _ _ _ _ _ rfl v2 rfl rfl _) ?_; refine Hid.out ?_)
  refine Lib.hid ?_
  go_wp2_with (refine wpList_gv (op := ⟨some 139, _, _, _, _, _⟩) (.bool true) (by rfl) (eqB_run _ _ _ _ rfl d2 rfl rfl _) ?_; refine Hid.out ?_)
  refine Lib.hid ?_
  go_wp2_with (refine wpList_gv (op := ⟨some 144, _, _, _, _, _⟩) (.bool true) (by rfl) (eqI_run _ _ _ _ _ rfl e2 rfl rfl _) ?_; refine Hid.out ?_)
  refine Lib.hid ?_
  go_wp2
  first | (go_ret; exact ⟨rfl, HB.out⟩) | exact ⟨.bool true, by simp [results, Try.f18, go_sem], rfl, HB.out⟩ | exact bodyPost_ret (v := .bool true) (by simp [results, Try.f18, go_sem]) rfl ⟨rfl, HB.out⟩
theorem info_op : (Try.prog.info? 34).map (·.size) = some 20 := by kernel_rfl
theorem zero_op : (Try.prog.info? 34).map (·.zero) = some (some (.agg (opC 0 ⟨0, 0, Z0⟩ 0))) := by kernel_rfl
theorem op_one (k v : Int) (p : Pf) : (opC k p v).all (·.oneCell') = true := by kernel_rfl
theorem op_over (k v : Int) (p : Pf) : putMany (opC 0 ⟨0, 0, Z0⟩ 0) 0 (opC k p v).toList = opC k p v := by kernel_rfl
theorem kyL_pf {w : World} {B s : Nat} {T : Ts} (h : TsAt w B s T) : pfB T.all = pfB (kyL T.doc) := pfB_congr (by
  rw [doc_all h]
  unfold kyL
  rw [List.map_map]
  rfl)
theorem kyL_len (T : Ts) : (kyL T.doc).length = T.cnt := by
  unfold kyL
  rw [List.length_map, doc_len]
end Go.Proofs.Ytldgfjcdlkbngaa
