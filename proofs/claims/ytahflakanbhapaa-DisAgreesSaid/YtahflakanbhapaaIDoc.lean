/- The document's Elect. Each theorem states its conditions. -/
import Derived.Test.YtahflakanbhapaaIElect
namespace Go.Proofs.Ytahflakanbhapaa
open Go.RowKit
set_option linter.unusedVariables false

def WinsTo (L : Nat → Mb) (i n : Nat) : Prop := (L i).up = true ∧ ∀ j, j < n → ¬ ((L j).up = true ∧ (keyM (L i) < keyM (L j) ∨ (keyM (L j) = keyM (L i) ∧ j < i)))
theorem wins_to {L : Nat → Mb} {i n : Nat} : WinsTo L i n ↔ Wins L n i := Iff.rfl
def WB (L : Nat → Mb) (i j : Nat) (q : Bool) : Prop := q = true ↔ WinsTo L i j
theorem wb_start (L : Nat → Mb) (i : Nat) : WB L i 0 (L i).up := ⟨fun h => ⟨h, fun j hj => by omega⟩, fun h => h.1⟩
theorem wb_keep {L : Nat → Mb} {i j : Nat} {q : Bool} (h : WB L i j q) (hk : ¬ ((L j).up = true ∧ (keyM (L i) < keyM (L j) ∨ (keyM (L j) = keyM (L i) ∧ j < i)))) : WB L i (j + 1) q := by
  refine h.trans ⟨fun g => ⟨g.1, fun x hx => ?_⟩, fun g => ⟨g.1, fun x hx => g.2 x (by omega)⟩⟩
  by_cases e : x = j
  · subst e; exact hk
  · exact g.2 x (by omega)
theorem wb_stop {L : Nat → Mb} {i j : Nat} (hk : (L j).up = true ∧ (keyM (L i) < keyM (L j) ∨ (keyM (L j) = keyM (L i) ∧ j < i))) : WB L i (j + 1) false :=
  ⟨fun e => (by cases e), fun g => (g.2 j (by omega) hk).elim⟩
theorem key_u64 {m : Mb} (h : MbOk m) : 0 ≤ m.pr ∧ m.pr ≤ 255 ∧ 0 ≤ numZ m.k 0 6 ∧ numZ m.k 0 6 < 281474976710656 ∧ IntKind.u64.wrap (m.pr * 281474976710656) = m.pr * 281474976710656 ∧ IntKind.u64.wrap (m.pr * 281474976710656 + numZ m.k 0 6) = keyM m := by
  have h1 := num6_bd h.2.1
  have h2 := h.2.2
  refine ⟨h2.1, h2.2, h1.1, h1.2, ?_, ?_⟩
  · rw [IntKind.wrap_u64]; omega
  · rw [IntKind.wrap_u64]; unfold keyM; omega
def NoWin (L : Nat → Mb) (n k : Nat) : Prop := ∀ i, i < k → ¬ Wins L n i
theorem nowin_next {L : Nat → Mb} {n k : Nat} (h : NoWin L n k) (hw : WB L k n false) : NoWin L n (k + 1) := by
  intro i hi
  by_cases e : i = k
  · subst e; exact fun x => (by have := hw.2 x; cases this)
  · exact h i (by omega)
set_option maxHeartbeats 8000000 in
set_option maxRecDepth 100000 in
theorem docElect_any (A : Option Addr) (n c : Nat) (L : Nat → Mb) (w : World) (hR : RdR w A n 14 (mbA L)) (hOk : ∀ j, MbOk (L j)) (hn : n ≤ 140737488351232) :
    Calls Try.prog 10 #[.slice A n c] w (EleP L n w) := by
  have HRR := Lib.hid hR
  have HOk := Lib.hid hOk
  go_enter Try.func10, Try.ntmps10
  go_wp2_with fail
  refine (refCheck_any A n c L w hR hn).mono ?_
  rintro e wa ⟨r, rfl, hr, hb⟩
  have HC := Lib.hid hr
  have HB := Lib.hid hb
  clear hR hr hb hOk
  by_cases h0 : r = 0
  rotate_left
  · have hq : (r != 0) = true := by simp [h0]
    have H0 := Lib.hid h0
    clear h0
    go_wp2_with fail
    go_ret2
    exact ⟨0, r, rfl, HC.out, .inl ⟨H0.out, rfl⟩, HB.out⟩
  subst h0
  rcases Nat.eq_zero_or_pos n with rfl | hpos
  · go_wp2_with fail
    refine wp_loop_rounds 1 ?_
    rw [rounds_succ]
    go_wp2_with fail
    go_ret2
    exact ⟨-1, 0, rfl, HC.out, .inr ⟨rfl, best_zero L⟩, HB.out⟩
  obtain ⟨b, off, rfl, hr⟩ := HRR.out.row hpos
  have HR := Lib.hid hr
  clear HRR hr
  go_wp2_with fail
  go_loopw [19] (fun t wr => ∃ k : Nat, k ≤ n ∧ t = .int .i64 k ∧ Hid (NoWin L n k) ∧ Hid (Below w.heap.size w wr)) (fun t _ => n - (intOf t).toNat)
  case atStart => exact ⟨0, by omega, rfl, Lib.hid (fun i hi => absurd hi (Nat.not_lt_zero _)), HB⟩
  case round =>
    clear HB
    obtain ⟨k, hk, rfl, HF, HW⟩ := hrel
    by_cases hlt : k < n
    rotate_left
    · obtain rfl : k = n := by omega
      go_wp2_with fail
      go_ret2
      exact ⟨-1, 0, rfl, HC.out, .inr ⟨rfl, none_best HF.out⟩, HW.out⟩
    have hki : (k : Int) < (n : Int) := by omega
    obtain ⟨m, hm⟩ : ∃ m, L k = m := ⟨_, rfl⟩
    have HMk := Lib.hid hm
    have HOm : Hid (MbOk m) := Lib.hid (hm ▸ HOk.out k)
    clear hm
    have h1 : Hid (wr.rangeAt b (off + k * 14) (mbC m).toList) := Lib.hid (by have h9 := rangeAt_below (HR.out.2 k hlt) HW.out HR.out.1; unfold mbA at h9; first | exact h9 | (rw [HMk.out] at h9; exact h9))
    go_wp2_with (refine wpList_ld (op := ⟨some 23, _, _, _, _, _⟩) (by rfl) 39 (.tmp 22) rfl b (off + k * 14) rfl (mbC m) _ h1.out Try.underlying39 rfl info_mbR ?_; refine Hid.out ?_)
    refine Lib.hid ?_
    clear h1
    obtain ⟨N1, hN1⟩ : ∃ N, wr.heap.size = N := ⟨_, rfl⟩
    have HN1 := Lib.hid hN1
    clear hN1
    go_wp2_with (refine wpList_new (op := ⟨some 6, _, _, _, _, _⟩) rfl 39 rfl (mbC mb0) zero_mbR N1 HN1.out ?_; intro w1 k1 b1 s1; refine Hid.out ?_)
    refine Lib.hid ?_
    have K6 := Lib.hid k1
    clear k1
    have le_HW_N1 : w.heap.size ≤ N1 := by rw [← HN1.out]; exact HW.out.size
    have HWn := Lib.hid (HW.out.trans (b1.mono HW.out.size))
    clear HW
    have HW := HWn
    clear HWn
    clear b1 HN1
    go_wp2_with (refine wpList_st rfl 39 (.tmp 6) (.tmp 23) rfl N1 0 rfl (.agg (mbC m)) (mbC m) rfl rfl info_mbR (mbC_one _) K6.out (Nat.le_of_ble_eq_true rfl) (C' := mbC m) (by kernel_rfl) ?_; intro w2 q1; refine Hid.out ?_)
    refine Lib.hid ?_
    have HWn := Lib.hid (HW.out.trans (q1.2.1 _ (by omega)))
    clear HW
    have HW := HWn
    clear HWn
    have K6n : Hid (Blk 39 w2 N1 (mbC m)) := Lib.hid q1.1
    clear K6
    have K6 := K6n
    clear K6n q1
    have c1 : w2.cell? ⟨N1, 13, none⟩ = some (.bool m.up) := (K6.out.cell 13).trans rfl
    go_wp2_with fail
    clear c1
    go_loopw [7, 28] (fun s t wq => ∃ (q : Bool) (j : Nat), j ≤ n ∧ s = .bool q ∧ t = .int .i64 j ∧ Hid (WB L k j q) ∧ Hid (Blk 39 wq N1 (mbC m)) ∧ Hid (Below w.heap.size w wq)) (fun _ t _ => n - (intOf t).toNat)
    case atStart => exact ⟨m.up, 0, by omega, rfl, rfl, Lib.hid (by have := wb_start L k; rw [HMk.out] at this; exact this), K6, HW⟩
    case round =>
      clear K6 HW
      obtain ⟨q, j, hj, rfl, rfl, HQ, K6, HW⟩ := hrel
      by_cases hjt : j < n
      rotate_left
      · obtain rfl : j = n := by omega
        cases q
        · skip
          go_wp2_with fail
          go_roundw
          case rel => exact ⟨k + 1, by omega, by go_num, Lib.hid (nowin_next HF.out HQ.out), HW⟩
          case measure => simp only [intOf]; omega
        · skip
          go_wp2_with fail
          go_ret2
          exact ⟨k, 0, rfl, HC.out, .inr ⟨rfl, wins_best hlt (wins_to.1 (HQ.out.1 rfl))⟩, HW.out⟩
      have hji : (j : Int) < (n : Int) := by omega
      obtain ⟨o, ho⟩ : ∃ m, L j = m := ⟨_, rfl⟩
      have HMo := Lib.hid ho
      have HOo : Hid (MbOk o) := Lib.hid (ho ▸ HOk.out j)
      clear ho
      have h1 : Hid (wr.rangeAt b (off + j * 14) (mbC o).toList) := Lib.hid (by have h9 := rangeAt_below (HR.out.2 j hjt) HW.out HR.out.1; unfold mbA at h9; rw [HMo.out] at h9; exact h9)
      go_wp2_with (refine wpList_ld (op := ⟨some 32, _, _, _, _, _⟩) (by rfl) 39 (.tmp 31) rfl b (off + j * 14) rfl (mbC o) _ h1.out Try.underlying39 rfl info_mbR ?_; refine Hid.out ?_)
      refine Lib.hid ?_
      clear h1
      obtain ⟨N21, hN21⟩ : ∃ N, wr.heap.size = N := ⟨_, rfl⟩
      have HN21 := Lib.hid hN21
      clear hN21
      go_wp2_with (refine wpList_new (op := ⟨some 9, _, _, _, _, _⟩) rfl 39 rfl (mbC mb0) zero_mbR N21 HN21.out ?_; intro w21 k1 b1 s1; refine Hid.out ?_)
      refine Lib.hid ?_
      have K9 := Lib.hid k1
      clear k1
      have lt_N1_N21 : N1 < N21 := by rw [← HN21.out]; exact K6.out.lt
      have le_HW_N21 : w.heap.size ≤ N21 := by rw [← HN21.out]; exact HW.out.size
      have K6n := Lib.hid (K6.out.below b1 K6.out.lt)
      clear K6
      have K6 := K6n
      clear K6n
      have HWn := Lib.hid (HW.out.trans (b1.mono HW.out.size))
      clear HW
      have HW := HWn
      clear HWn
      clear b1 HN21
      go_wp2_with (refine wpList_st rfl 39 (.tmp 9) (.tmp 32) rfl N21 0 rfl (.agg (mbC o)) (mbC o) rfl rfl info_mbR (mbC_one _) K9.out (Nat.le_of_ble_eq_true rfl) (C' := mbC o) (by kernel_rfl) ?_; intro w22 q1; refine Hid.out ?_)
      refine Lib.hid ?_
      have K6n := Lib.hid (K6.out.far q1 (by omega))
      clear K6
      have K6 := K6n
      clear K6n
      have HWn := Lib.hid (HW.out.trans (q1.2.1 _ (by omega)))
      clear HW
      have HW := HWn
      clear HWn
      have K9n : Hid (Blk 39 w22 N21 (mbC o)) := Lib.hid q1.1
      clear K9
      have K9 := K9n
      clear K9n q1
      obtain ⟨km0, km1, _, _, km2, km3⟩ := key_u64 HOm.out
      have KM := Lib.hid km3
      have KS := Lib.hid km2
      clear km2 km3
      obtain ⟨ko0, ko1, _, _, ko2, ko3⟩ := key_u64 HOo.out
      have LM := Lib.hid ko3
      have LS := Lib.hid ko2
      clear ko2 ko3
      go_wp2_with fail
      refine wp_region_held_drew (S := fun w' => Blk 39 w' N1 (mbC m) ∧ Blk 39 w' N21 (mbC o) ∧ Below w.heap.size w w') (by kernel_rfl) ⟨K6.out, K9.out, HW.out.drew⟩ (fun hS => ?_)
      generalize hW23 : w22.drew = W23 at hS ⊢
      clear hW23
      clear K6
      clear K9
      clear HW
      have K6 := Lib.hid hS.1
      have K9 := Lib.hid hS.2.1
      have HW := Lib.hid hS.2.2
      refine takeY (i := 0) (some 33) (v := .pointer (some ⟨N1, 12, none⟩)) rfl rfl (by kernel_rfl) (by kernel_rfl) (by kernel_rfl) (fun _ _ _ h => h) (by rfl) (fun w' hS => by go_simp) hS ?_
      simp only [Act.put, List.setIfInBounds_toArray, List.set_cons_zero, List.set_cons_succ]
      refine takeY (i := 1) (some 34) (v := .int .u8 m.pr) rfl rfl (by kernel_rfl) (by kernel_rfl) (by kernel_rfl) (fun _ _ _ h => h) (by rfl) (fun w' hS => by (have c9 : w'.cell? ⟨N1, 12, none⟩ = some (.int .u8 m.pr) := (hS.1.cell 12).trans rfl; clear hS; go_simp)) hS ?_
      simp only [Act.put, List.setIfInBounds_toArray, List.set_cons_zero, List.set_cons_succ]
      refine takeY (i := 2) (some 35) (v := .int .u64 m.pr) rfl rfl (by kernel_rfl) (by kernel_rfl) (by kernel_rfl) (fun _ _ _ h => h) (by rfl) (fun w' hS => by (clear hS; go_simp; rw [IntKind.wrap_u64]; omega)) hS ?_
      simp only [Act.put, List.setIfInBounds_toArray, List.set_cons_zero, List.set_cons_succ]
      refine takeY (i := 3) (some 36) (v := .int .u64 (m.pr * 281474976710656)) rfl rfl (by kernel_rfl) (by kernel_rfl) (by kernel_rfl) (fun _ _ _ h => h) (by rfl) (fun w' hS => by (clear hS; have e9 := KS.out; go_simp; first | done | exact e9 | simp [e9])) hS ?_
      simp only [Act.put, List.setIfInBounds_toArray, List.set_cons_zero, List.set_cons_succ]
      refine takeY (i := 4) (some 37) (v := .pointer (some ⟨N1, 6, none⟩)) rfl rfl (by kernel_rfl) (by kernel_rfl) (by kernel_rfl) (fun _ _ _ h => h) (by rfl) (fun w' hS => by go_simp) hS ?_
      simp only [Act.put, List.setIfInBounds_toArray, List.set_cons_zero, List.set_cons_succ]
      refine takeL (i := 5) (some 38) 36 (.tmp 37) N1 6 (syC m.k) _ rfl rfl (by kernel_rfl) (by kernel_rfl) (by kernel_rfl) (fun _ _ _ h => h) (by rfl) rfl rfl (fun w' hS => hS.1.mbk) Try.underlying36 rfl info_mac hS ?_
      simp only [Act.put, List.setIfInBounds_toArray, List.set_cons_zero, List.set_cons_succ]
      refine takeC (i := 6) (some 39) 21 #[.agg (syC m.k)] (.int .u64 (numZ m.k 0 6)) (R := fun w' => Below W23.heap.size W23 w') rfl rfl (by kernel_rfl) (by rfl) (by go_simp) (number_any m.k W23 HOm.out.2.1) (fun w' hb => ⟨hS.1.below hb hS.1.lt, hS.2.1.below hb hS.2.1.lt, hS.2.2.trans (hb.mono hS.2.2.size)⟩) (fun W24 hb1 hS2 => ?_)
      simp only [Act.put, List.setIfInBounds_toArray, List.set_cons_zero, List.set_cons_succ]
      clear K6
      clear K9
      clear HW
      clear hS hb1
      have hS := hS2
      clear hS2
      have K6 := Lib.hid hS.1
      have K9 := Lib.hid hS.2.1
      have HW := Lib.hid hS.2.2
      refine takeY (i := 7) (some 40) (v := .int .u64 (keyM m)) rfl rfl (by kernel_rfl) (by kernel_rfl) (by kernel_rfl) (fun _ _ _ h => h) (by rfl) (fun w' hS => by (clear hS; have e9 := KM.out; go_simp; first | done | exact e9 | simp [e9])) hS ?_
      simp only [Act.put, List.setIfInBounds_toArray, List.set_cons_zero, List.set_cons_succ]
      refine takeY (i := 8) (some 10) (v := .int .u64 (keyM m)) rfl rfl (by kernel_rfl) (by kernel_rfl) (by kernel_rfl) (fun _ _ _ h => h) (by rfl) (fun w' hS => by go_simp) hS ?_
      simp only [Act.put, List.setIfInBounds_toArray, List.set_cons_zero, List.set_cons_succ]
      clear hS
      refine wpAnyH_done (by kernel_rfl) ?_ _
      go_wp2_with fail
      refine wp_region_held_drew (S := fun w' => Blk 39 w' N1 (mbC m) ∧ Blk 39 w' N21 (mbC o) ∧ Below w.heap.size w w') (by kernel_rfl) ⟨K6.out, K9.out, HW.out.drew⟩ (fun hS => ?_)
      generalize hW25 : W24.drew = W25 at hS ⊢
      clear hW25
      clear K6
      clear K9
      clear HW
      have K6 := Lib.hid hS.1
      have K9 := Lib.hid hS.2.1
      have HW := Lib.hid hS.2.2
      refine takeY (i := 0) (some 41) (v := .pointer (some ⟨N21, 12, none⟩)) rfl rfl (by kernel_rfl) (by kernel_rfl) (by kernel_rfl) (fun _ _ _ h => h) (by rfl) (fun w' hS => by go_simp) hS ?_
      simp only [Act.put, List.setIfInBounds_toArray, List.set_cons_zero, List.set_cons_succ]
      refine takeY (i := 1) (some 42) (v := .int .u8 o.pr) rfl rfl (by kernel_rfl) (by kernel_rfl) (by kernel_rfl) (fun _ _ _ h => h) (by rfl) (fun w' hS => by (have c9 : w'.cell? ⟨N21, 12, none⟩ = some (.int .u8 o.pr) := (hS.2.1.cell 12).trans rfl; clear hS; go_simp)) hS ?_
      simp only [Act.put, List.setIfInBounds_toArray, List.set_cons_zero, List.set_cons_succ]
      refine takeY (i := 2) (some 43) (v := .int .u64 o.pr) rfl rfl (by kernel_rfl) (by kernel_rfl) (by kernel_rfl) (fun _ _ _ h => h) (by rfl) (fun w' hS => by (clear hS; go_simp; rw [IntKind.wrap_u64]; omega)) hS ?_
      simp only [Act.put, List.setIfInBounds_toArray, List.set_cons_zero, List.set_cons_succ]
      refine takeY (i := 3) (some 44) (v := .int .u64 (o.pr * 281474976710656)) rfl rfl (by kernel_rfl) (by kernel_rfl) (by kernel_rfl) (fun _ _ _ h => h) (by rfl) (fun w' hS => by (clear hS; have e9 := LS.out; go_simp; first | done | exact e9 | simp [e9])) hS ?_
      simp only [Act.put, List.setIfInBounds_toArray, List.set_cons_zero, List.set_cons_succ]
      refine takeY (i := 4) (some 45) (v := .pointer (some ⟨N21, 6, none⟩)) rfl rfl (by kernel_rfl) (by kernel_rfl) (by kernel_rfl) (fun _ _ _ h => h) (by rfl) (fun w' hS => by go_simp) hS ?_
      simp only [Act.put, List.setIfInBounds_toArray, List.set_cons_zero, List.set_cons_succ]
      refine takeL (i := 5) (some 46) 36 (.tmp 45) N21 6 (syC o.k) _ rfl rfl (by kernel_rfl) (by kernel_rfl) (by kernel_rfl) (fun _ _ _ h => h) (by rfl) rfl rfl (fun w' hS => hS.2.1.mbk) Try.underlying36 rfl info_mac hS ?_
      simp only [Act.put, List.setIfInBounds_toArray, List.set_cons_zero, List.set_cons_succ]
      refine takeC (i := 6) (some 47) 21 #[.agg (syC o.k)] (.int .u64 (numZ o.k 0 6)) (R := fun w' => Below W25.heap.size W25 w') rfl rfl (by kernel_rfl) (by rfl) (by go_simp) (number_any o.k W25 HOo.out.2.1) (fun w' hb => ⟨hS.1.below hb hS.1.lt, hS.2.1.below hb hS.2.1.lt, hS.2.2.trans (hb.mono hS.2.2.size)⟩) (fun W26 hb1 hS2 => ?_)
      simp only [Act.put, List.setIfInBounds_toArray, List.set_cons_zero, List.set_cons_succ]
      clear K6
      clear K9
      clear HW
      clear hS hb1
      have hS := hS2
      clear hS2
      have K6 := Lib.hid hS.1
      have K9 := Lib.hid hS.2.1
      have HW := Lib.hid hS.2.2
      refine takeY (i := 7) (some 48) (v := .int .u64 (keyM o)) rfl rfl (by kernel_rfl) (by kernel_rfl) (by kernel_rfl) (fun _ _ _ h => h) (by rfl) (fun w' hS => by (clear hS; have e9 := LM.out; go_simp; first | done | exact e9 | simp [e9])) hS ?_
      simp only [Act.put, List.setIfInBounds_toArray, List.set_cons_zero, List.set_cons_succ]
      refine takeY (i := 8) (some 11) (v := .int .u64 (keyM o)) rfl rfl (by kernel_rfl) (by kernel_rfl) (by kernel_rfl) (fun _ _ _ h => h) (by rfl) (fun w' hS => by go_simp) hS ?_
      simp only [Act.put, List.setIfInBounds_toArray, List.set_cons_zero, List.set_cons_succ]
      clear hS
      refine wpAnyH_done (by kernel_rfl) ?_ _
      have c1 : W26.cell? ⟨N21, 13, none⟩ = some (.bool o.up) := (K9.out.cell 13).trans rfl
      have HU : Hid ((L j).up = o.up) := Lib.hid (by rw [HMo.out])
      obtain ⟨A1, hA1⟩ : ∃ x, keyM m = x := ⟨_, rfl⟩
      obtain ⟨B1, hB1⟩ : ∃ x, keyM o = x := ⟨_, rfl⟩
      have HA1 : Hid (keyM (L k) = A1) := Lib.hid (by rw [HMk.out]; exact hA1)
      have HB1 : Hid (keyM (L j) = B1) := Lib.hid (by rw [HMo.out]; exact hB1)
      rw [hA1, hB1]
      clear hA1 hB1 KM LM KS LS
      obtain ⟨ou, hou⟩ : ∃ x, o.up = x := ⟨_, rfl⟩
      rw [hou] at c1 HU
      clear hou
      cases ou
      · skip
        go_wp2_with fail
        go_roundw
        case rel => exact ⟨q, j + 1, by omega, by simp, by go_num, Lib.hid (wb_keep HQ.out (by rw [HU.out]; exact fun x => (by cases x.1))), K6, HW⟩
        case measure => simp only [intOf]; omega
      · skip
        by_cases g1 : A1 < B1
        · skip
          have G1 := Lib.hid g1
          go_wp2_with fail
          go_roundw
          case rel => exact ⟨false, j + 1, by omega, by simp, by go_num, Lib.hid (wb_stop ⟨HU.out, by rw [HA1.out, HB1.out]; exact .inl G1.out⟩), K6, HW⟩
          case measure => simp only [intOf]; omega
        · skip
          have G1 := Lib.hid g1
          by_cases g2 : B1 = A1
          · skip
            subst g2
            by_cases g3 : j < k
            · skip
              have g3i : (j : Int) < (k : Int) := by omega
              have G3 := Lib.hid g3
              clear g3
              go_wp2_with fail
              go_roundw
              case rel => exact ⟨false, j + 1, by omega, by simp, by go_num, Lib.hid (wb_stop ⟨HU.out, by rw [HA1.out, HB1.out]; exact .inr ⟨rfl, G3.out⟩⟩), K6, HW⟩
              case measure => simp only [intOf]; omega
            · skip
              have g3i : ¬ (j : Int) < (k : Int) := by omega
              have G3 := Lib.hid g3
              clear g3
              go_wp2_with fail
              go_roundw
              case rel => exact ⟨q, j + 1, by omega, by simp, by go_num, Lib.hid (wb_keep HQ.out (by rw [HA1.out, HB1.out]; exact fun x => x.2.elim G1.out (fun y => G3.out y.2))), K6, HW⟩
              case measure => simp only [intOf]; omega
          · skip
            have g2e : (B1 == A1) = false := by rw [beq_eq_false_iff_ne]; exact g2
            have G2 := Lib.hid g2
            clear g2
            go_wp2_with fail
            go_roundw
            case rel => exact ⟨q, j + 1, by omega, by simp, by go_num, Lib.hid (wb_keep HQ.out (by rw [HA1.out, HB1.out]; exact fun x => x.2.elim G1.out (fun y => G2.out y.1))), K6, HW⟩
            case measure => simp only [intOf]; omega
end Go.Proofs.Ytahflakanbhapaa
