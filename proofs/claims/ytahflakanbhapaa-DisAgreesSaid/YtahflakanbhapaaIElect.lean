/- dis.Elect and the document's: who speaks for all. Each theorem states its conditions. -/
import Derived.Test.YtahflakanbhapaaIFun
namespace Go.Proofs.Ytahflakanbhapaa
open Go.RowKit
set_option linter.unusedVariables false

def EleP (L : Nat → Mb) (n : Nat) (w : World) (e : Ending) (w' : World) : Prop := ∃ i r : Int, e = .returned (.tuple #[.int .i64 i, .int .i64 r]) ∧ chkM L n r ∧ ((r ≠ 0 ∧ i = 0) ∨ (r = 0 ∧ Best L n i)) ∧ Below w.heap.size w w'
def BestH (L : Nat → Mb) (n : Nat) (f : Int) : Prop := f = -1 ∨ ∃ k : Nat, f = (k : Int) ∧ k < n
theorem best_h {L : Nat → Mb} {n : Nat} {f : Int} (h : Best L n f) : BestH L n f := by
  rcases h with ⟨e, _⟩ | ⟨k, hk, e, _⟩
  · exact .inl e
  · exact .inr ⟨k, e, hk⟩
set_option maxHeartbeats 8000000 in
set_option maxRecDepth 100000 in
theorem elect_any (A : Option Addr) (n c : Nat) (L : Nat → Mb) (w : World) (hR : RdR w A n 14 (mbA L)) (hOk : ∀ j, MbOk (L j)) (hn : n ≤ 140737488351232) :
    Calls Try.prog 9 #[.slice A n c] w (EleP L n w) := by
  have HRR := Lib.hid hR
  have HOk := Lib.hid hOk
  go_enter Try.func9, Try.ntmps9
  go_wp2_with fail
  refine (check_any A n c L w hR hn).mono ?_
  rintro e wa ⟨r, rfl, hr, hb⟩
  have HC := Lib.hid hr
  have HB := Lib.hid hb
  clear hR hr hb hOk
  by_cases h0 : r = 0
  rotate_left
  · have hq : (r != 0) = true := by simp [h0]
    have H0 := Lib.hid h0
    clear h0
    go_wp2_with fail
    go_ret2
    exact ⟨0, r, rfl, HC.out, .inl ⟨H0.out, rfl⟩, HB.out⟩
  subst h0
  rcases Nat.eq_zero_or_pos n with rfl | hpos
  · go_wp2_with fail
    refine wp_loop_rounds 1 ?_
    rw [rounds_succ]
    go_wp2_with fail
    go_ret2
    exact ⟨-1, 0, rfl, HC.out, .inr ⟨rfl, best_zero L⟩, HB.out⟩
  obtain ⟨b, off, rfl, hr⟩ := HRR.out.row hpos
  have HR := Lib.hid hr
  clear HRR hr
  go_wp2_with fail
  go_loopw [5, 15] (fun s t wr => ∃ (f : Int) (k : Nat), k ≤ n ∧ s = .int .i64 f ∧ t = .int .i64 k ∧ Hid (Best L k f) ∧ Hid (Below w.heap.size w wr)) (fun _ t _ => n - (intOf t).toNat)
  case atStart => exact ⟨-1, 0, by omega, rfl, rfl, Lib.hid (best_zero L), HB⟩
  case round =>
    clear HB
    obtain ⟨f, k, hk, rfl, rfl, HF, HW⟩ := hrel
    by_cases hlt : k < n
    rotate_left
    · obtain rfl : k = n := by omega
      go_wp2_with fail
      go_ret2
      exact ⟨f, 0, rfl, HC.out, .inr ⟨rfl, HF.out⟩, HW.out⟩
    have hki : (k : Int) < (n : Int) := by omega
    obtain ⟨m, hm⟩ : ∃ m, L k = m := ⟨_, rfl⟩
    have HMk := Lib.hid hm
    have HOm : Hid (MbOk m) := Lib.hid (hm ▸ HOk.out k)
    have HF2 := Lib.hid (best_h HF.out)
    clear hm
    have h1 : Hid (wr.rangeAt b (off + k * 14) (mbC m).toList) := Lib.hid (by have h9 := rangeAt_below (HR.out.2 k hlt) HW.out HR.out.1; unfold mbA at h9; first | exact h9 | (rw [HMk.out] at h9; exact h9))
    go_wp2_with (refine wpList_ld (op := ⟨some 19, _, _, _, _, _⟩) (by rfl) 40 (.tmp 18) rfl b (off + k * 14) rfl (mbC m) _ h1.out Try.underlying40 rfl info_mbP ?_; refine Hid.out ?_)
    refine Lib.hid ?_
    clear h1
    obtain ⟨N1, hN1⟩ : ∃ N, wr.heap.size = N := ⟨_, rfl⟩
    have HN1 := Lib.hid hN1
    clear hN1
    go_wp2_with (refine wpList_new (op := ⟨some 7, _, _, _, _, _⟩) rfl 40 rfl (mbC mb0) zero_mbP N1 HN1.out ?_; intro w1 k1 b1 s1; refine Hid.out ?_)
    refine Lib.hid ?_
    have K7 := Lib.hid k1
    clear k1
    have le_HW_N1 : w.heap.size ≤ N1 := by rw [← HN1.out]; exact HW.out.size
    have HWn := Lib.hid (HW.out.trans (b1.mono HW.out.size))
    clear HW
    have HW := HWn
    clear HWn
    clear b1 HN1
    go_wp2_with (refine wpList_st rfl 40 (.tmp 7) (.tmp 19) rfl N1 0 rfl (.agg (mbC m)) (mbC m) rfl rfl info_mbP (mbC_one _) K7.out (Nat.le_of_ble_eq_true rfl) (C' := mbC m) (by kernel_rfl) ?_; intro w2 q1; refine Hid.out ?_)
    refine Lib.hid ?_
    have HWn := Lib.hid (HW.out.trans (q1.2.1 _ (by omega)))
    clear HW
    have HW := HWn
    clear HWn
    have K7n : Hid (Blk 40 w2 N1 (mbC m)) := Lib.hid q1.1
    clear K7
    have K7 := K7n
    clear K7n q1
    go_wp2_with fail
    obtain ⟨ms, mk, mp, mu⟩ := m
    cases mu
    · skip
      refine wp_region_held_drew (S := fun w' => Blk 40 w' N1 (mbC (⟨ms, mk, mp, false⟩ : Mb)) ∧ Below w.heap.size w w') (by kernel_rfl) ⟨K7.out, HW.out.drew⟩ (fun hS => ?_)
      generalize hW3 : w2.drew = W3 at hS ⊢
      clear hW3
      clear K7
      clear HW
      have K7 := Lib.hid hS.1
      have HW := Lib.hid hS.2
      refine takeY (i := 0) (some 20) (v := .pointer (some ⟨N1, 13, none⟩)) rfl rfl (by kernel_rfl) (by kernel_rfl) (by kernel_rfl) (fun _ _ _ h => h) (by rfl) (fun w' hS => by go_simp) hS ?_
      simp only [Act.put, List.setIfInBounds_toArray, List.set_cons_zero, List.set_cons_succ]
      refine takeY (i := 1) (some 21) (v := .bool false) rfl rfl (by kernel_rfl) (by kernel_rfl) (by kernel_rfl) (fun _ _ _ h => h) (by rfl) (fun w' hS => by (have c9 : w'.cell? ⟨N1, 13, none⟩ = some (.bool false) := (hS.1.cell 13).trans rfl; clear hS; go_simp)) hS ?_
      simp only [Act.put, List.setIfInBounds_toArray, List.set_cons_zero, List.set_cons_succ]
      refine takeY (i := 2) (some 22) (v := .bool false) rfl rfl (by kernel_rfl) (by kernel_rfl) (by kernel_rfl) (fun _ _ _ h => h) (by rfl) (fun w' hS => by go_simp) hS ?_
      simp only [Act.put, List.setIfInBounds_toArray, List.set_cons_zero, List.set_cons_succ]
      refine takeN (i := 3) (some 23) rfl rfl (by kernel_rfl) (by kernel_rfl) (by kernel_rfl) (fun _ _ _ h => h) (by rfl) hS ?_
      simp only [Act.put, List.setIfInBounds_toArray, List.set_cons_zero, List.set_cons_succ]
      refine takeN (i := 4) (some 24) rfl rfl (by kernel_rfl) (by kernel_rfl) (by kernel_rfl) (fun _ _ _ h => h) (by rfl) hS ?_
      simp only [Act.put, List.setIfInBounds_toArray, List.set_cons_zero, List.set_cons_succ]
      refine takeN (i := 5) (some 25) rfl rfl (by kernel_rfl) (by kernel_rfl) (by kernel_rfl) (fun _ _ _ h => h) (by rfl) hS ?_
      simp only [Act.put, List.setIfInBounds_toArray, List.set_cons_zero, List.set_cons_succ]
      refine takeN (i := 6) (some 26) rfl rfl (by kernel_rfl) (by kernel_rfl) (by kernel_rfl) (fun _ _ _ h => h) (by rfl) hS ?_
      simp only [Act.put, List.setIfInBounds_toArray, List.set_cons_zero, List.set_cons_succ]
      refine takeN (i := 7) (some 27) rfl rfl (by kernel_rfl) (by kernel_rfl) (by kernel_rfl) (fun _ _ _ h => h) (by rfl) hS ?_
      simp only [Act.put, List.setIfInBounds_toArray, List.set_cons_zero, List.set_cons_succ]
      refine takeN (i := 8) (some 28) rfl rfl (by kernel_rfl) (by kernel_rfl) (by kernel_rfl) (fun _ _ _ h => h) (by rfl) hS ?_
      simp only [Act.put, List.setIfInBounds_toArray, List.set_cons_zero, List.set_cons_succ]
      refine takeN (i := 9) (some 29) rfl rfl (by kernel_rfl) (by kernel_rfl) (by kernel_rfl) (fun _ _ _ h => h) (by rfl) hS ?_
      simp only [Act.put, List.setIfInBounds_toArray, List.set_cons_zero, List.set_cons_succ]
      refine takeN (i := 10) (some 30) rfl rfl (by kernel_rfl) (by kernel_rfl) (by kernel_rfl) (fun _ _ _ h => h) (by rfl) hS ?_
      simp only [Act.put, List.setIfInBounds_toArray, List.set_cons_zero, List.set_cons_succ]
      refine takeN (i := 11) (some 31) rfl rfl (by kernel_rfl) (by kernel_rfl) (by kernel_rfl) (fun _ _ _ h => h) (by rfl) hS ?_
      simp only [Act.put, List.setIfInBounds_toArray, List.set_cons_zero, List.set_cons_succ]
      refine takeN (i := 12) (some 32) rfl rfl (by kernel_rfl) (by kernel_rfl) (by kernel_rfl) (fun _ _ _ h => h) (by rfl) hS ?_
      simp only [Act.put, List.setIfInBounds_toArray, List.set_cons_zero, List.set_cons_succ]
      refine takeY (i := 13) (some 33) (v := .bool false) rfl rfl (by kernel_rfl) (by kernel_rfl) (by kernel_rfl) (fun _ _ _ h => h) (by rfl) (fun w' hS => by go_simp) hS ?_
      simp only [Act.put, List.setIfInBounds_toArray, List.set_cons_zero, List.set_cons_succ]
      clear hS
      refine wpAnyH_done (by kernel_rfl) ?_ _
      go_wp2_with fail
      go_roundw
      case rel => exact ⟨f, k + 1, by omega, by simp, by go_num, Lib.hid (best_down HF.out (by rw [HMk.out])), HW⟩
      case measure => simp only [intOf]; omega
    · skip
      rcases HF2.out with hf | ⟨k0, hf, hk0⟩
      · subst hf
        refine wp_region_held_drew (S := fun w' => Blk 40 w' N1 (mbC (⟨ms, mk, mp, true⟩ : Mb)) ∧ Below w.heap.size w w') (by kernel_rfl) ⟨K7.out, HW.out.drew⟩ (fun hS => ?_)
        generalize hW3 : w2.drew = W3 at hS ⊢
        clear hW3
        clear K7
        clear HW
        have K7 := Lib.hid hS.1
        have HW := Lib.hid hS.2
        refine takeY (i := 0) (some 20) (v := .pointer (some ⟨N1, 13, none⟩)) rfl rfl (by kernel_rfl) (by kernel_rfl) (by kernel_rfl) (fun _ _ _ h => h) (by rfl) (fun w' hS => by go_simp) hS ?_
        simp only [Act.put, List.setIfInBounds_toArray, List.set_cons_zero, List.set_cons_succ]
        refine takeY (i := 1) (some 21) (v := .bool true) rfl rfl (by kernel_rfl) (by kernel_rfl) (by kernel_rfl) (fun _ _ _ h => h) (by rfl) (fun w' hS => by (have c9 : w'.cell? ⟨N1, 13, none⟩ = some (.bool true) := (hS.1.cell 13).trans rfl; clear hS; go_simp)) hS ?_
        simp only [Act.put, List.setIfInBounds_toArray, List.set_cons_zero, List.set_cons_succ]
        refine takeY (i := 2) (some 22) (v := .bool true) rfl rfl (by kernel_rfl) (by kernel_rfl) (by kernel_rfl) (fun _ _ _ h => h) (by rfl) (fun w' hS => by go_simp) hS ?_
        simp only [Act.put, List.setIfInBounds_toArray, List.set_cons_zero, List.set_cons_succ]
        refine takeY (i := 3) (some 23) (v := .int .i64 (-1)) rfl rfl (by kernel_rfl) (by kernel_rfl) (by kernel_rfl) (fun _ _ _ h => h) (by rfl) (fun w' hS => by go_simp) hS ?_
        simp only [Act.put, List.setIfInBounds_toArray, List.set_cons_zero, List.set_cons_succ]
        refine takeY (i := 4) (some 24) (v := .bool true) rfl rfl (by kernel_rfl) (by kernel_rfl) (by kernel_rfl) (fun _ _ _ h => h) (by rfl) (fun w' hS => by go_simp) hS ?_
        simp only [Act.put, List.setIfInBounds_toArray, List.set_cons_zero, List.set_cons_succ]
        refine takeY (i := 5) (some 25) (v := .bool true) rfl rfl (by kernel_rfl) (by kernel_rfl) (by kernel_rfl) (fun _ _ _ h => h) (by rfl) (fun w' hS => by go_simp) hS ?_
        simp only [Act.put, List.setIfInBounds_toArray, List.set_cons_zero, List.set_cons_succ]
        refine takeN (i := 6) (some 26) rfl rfl (by kernel_rfl) (by kernel_rfl) (by kernel_rfl) (fun _ _ _ h => h) (by rfl) hS ?_
        simp only [Act.put, List.setIfInBounds_toArray, List.set_cons_zero, List.set_cons_succ]
        refine takeN (i := 7) (some 27) rfl rfl (by kernel_rfl) (by kernel_rfl) (by kernel_rfl) (fun _ _ _ h => h) (by rfl) hS ?_
        simp only [Act.put, List.setIfInBounds_toArray, List.set_cons_zero, List.set_cons_succ]
        refine takeN (i := 8) (some 28) rfl rfl (by kernel_rfl) (by kernel_rfl) (by kernel_rfl) (fun _ _ _ h => h) (by rfl) hS ?_
        simp only [Act.put, List.setIfInBounds_toArray, List.set_cons_zero, List.set_cons_succ]
        refine takeN (i := 9) (some 29) rfl rfl (by kernel_rfl) (by kernel_rfl) (by kernel_rfl) (fun _ _ _ h => h) (by rfl) hS ?_
        simp only [Act.put, List.setIfInBounds_toArray, List.set_cons_zero, List.set_cons_succ]
        refine takeN (i := 10) (some 30) rfl rfl (by kernel_rfl) (by kernel_rfl) (by kernel_rfl) (fun _ _ _ h => h) (by rfl) hS ?_
        simp only [Act.put, List.setIfInBounds_toArray, List.set_cons_zero, List.set_cons_succ]
        refine takeN (i := 11) (some 31) rfl rfl (by kernel_rfl) (by kernel_rfl) (by kernel_rfl) (fun _ _ _ h => h) (by rfl) hS ?_
        simp only [Act.put, List.setIfInBounds_toArray, List.set_cons_zero, List.set_cons_succ]
        refine takeY (i := 12) (some 32) (v := .bool true) rfl rfl (by kernel_rfl) (by kernel_rfl) (by kernel_rfl) (fun _ _ _ h => h) (by rfl) (fun w' hS => by go_simp) hS ?_
        simp only [Act.put, List.setIfInBounds_toArray, List.set_cons_zero, List.set_cons_succ]
        refine takeY (i := 13) (some 33) (v := .bool true) rfl rfl (by kernel_rfl) (by kernel_rfl) (by kernel_rfl) (fun _ _ _ h => h) (by rfl) (fun w' hS => by go_simp) hS ?_
        simp only [Act.put, List.setIfInBounds_toArray, List.set_cons_zero, List.set_cons_succ]
        clear hS
        refine wpAnyH_done (by kernel_rfl) ?_ _
        go_wp2_with fail
        go_roundw
        case rel => exact ⟨k, k + 1, by omega, by simp, by go_num, Lib.hid (best_first HF.out (by rw [HMk.out])), HW⟩
        case measure => simp only [intOf]; omega
      · subst hf
        have H0n : Hid (k0 < n) := Lib.hid (by omega)
        have hk0i : (k0 : Int) < (n : Int) := by omega
        have hne : ((k0 : Int) == -1) = false := by rw [beq_eq_false_iff_ne]; omega
        obtain ⟨q, hq⟩ : ∃ q, decide (keyM (L k0) < keyM (⟨ms, mk, mp, true⟩ : Mb)) = q := ⟨_, rfl⟩
        have HQ := Lib.hid hq
        clear hq hk0
        cases q
        · skip
          refine wp_region_held_drew (S := fun w' => Blk 40 w' N1 (mbC (⟨ms, mk, mp, true⟩ : Mb)) ∧ Below w.heap.size w w') (by kernel_rfl) ⟨K7.out, HW.out.drew⟩ (fun hS => ?_)
          generalize hW3 : w2.drew = W3 at hS ⊢
          clear hW3
          clear K7
          clear HW
          have K7 := Lib.hid hS.1
          have HW := Lib.hid hS.2
          refine takeY (i := 0) (some 20) (v := .pointer (some ⟨N1, 13, none⟩)) rfl rfl (by kernel_rfl) (by kernel_rfl) (by kernel_rfl) (fun _ _ _ h => h) (by rfl) (fun w' hS => by go_simp) hS ?_
          simp only [Act.put, List.setIfInBounds_toArray, List.set_cons_zero, List.set_cons_succ]
          refine takeY (i := 1) (some 21) (v := .bool true) rfl rfl (by kernel_rfl) (by kernel_rfl) (by kernel_rfl) (fun _ _ _ h => h) (by rfl) (fun w' hS => by (have c9 : w'.cell? ⟨N1, 13, none⟩ = some (.bool true) := (hS.1.cell 13).trans rfl; clear hS; go_simp)) hS ?_
          simp only [Act.put, List.setIfInBounds_toArray, List.set_cons_zero, List.set_cons_succ]
          refine takeY (i := 2) (some 22) (v := .bool true) rfl rfl (by kernel_rfl) (by kernel_rfl) (by kernel_rfl) (fun _ _ _ h => h) (by rfl) (fun w' hS => by go_simp) hS ?_
          simp only [Act.put, List.setIfInBounds_toArray, List.set_cons_zero, List.set_cons_succ]
          refine takeY (i := 3) (some 23) (v := .int .i64 (k0 : Int)) rfl rfl (by kernel_rfl) (by kernel_rfl) (by kernel_rfl) (fun _ _ _ h => h) (by rfl) (fun w' hS => by go_simp) hS ?_
          simp only [Act.put, List.setIfInBounds_toArray, List.set_cons_zero, List.set_cons_succ]
          refine takeY (i := 4) (some 24) (v := .bool false) rfl rfl (by kernel_rfl) (by kernel_rfl) (by kernel_rfl) (fun _ _ _ h => h) (by rfl) (fun w' hS => by (clear hS; go_simp)) hS ?_
          simp only [Act.put, List.setIfInBounds_toArray, List.set_cons_zero, List.set_cons_succ]
          refine takeY (i := 5) (some 25) (v := .bool false) rfl rfl (by kernel_rfl) (by kernel_rfl) (by kernel_rfl) (fun _ _ _ h => h) (by rfl) (fun w' hS => by go_simp) hS ?_
          simp only [Act.put, List.setIfInBounds_toArray, List.set_cons_zero, List.set_cons_succ]
          refine takeL (i := 6) (some 26) 40 (.tmp 7) N1 0 (mbC (⟨ms, mk, mp, true⟩ : Mb)) _ rfl rfl (by kernel_rfl) (by kernel_rfl) (by kernel_rfl) (fun _ _ _ h => h) (by rfl) rfl rfl (fun w' hS => hS.1.all) Try.underlying40 rfl info_mbP hS ?_
          simp only [Act.put, List.setIfInBounds_toArray, List.set_cons_zero, List.set_cons_succ]
          refine takeY (i := 7) (some 27) (v := .slice (some ⟨b, off, none⟩) n c) rfl rfl (by kernel_rfl) (by kernel_rfl) (by kernel_rfl) (fun _ _ _ h => h) (by rfl) (fun w' hS => by go_simp) hS ?_
          simp only [Act.put, List.setIfInBounds_toArray, List.set_cons_zero, List.set_cons_succ]
          refine takeY (i := 8) (some 28) (v := .int .i64 (k0 : Int)) rfl rfl (by kernel_rfl) (by kernel_rfl) (by kernel_rfl) (fun _ _ _ h => h) (by rfl) (fun w' hS => by go_simp) hS ?_
          simp only [Act.put, List.setIfInBounds_toArray, List.set_cons_zero, List.set_cons_succ]
          refine takeY (i := 9) (some 29) (v := .pointer (some ⟨b, off + k0 * 14, none⟩)) rfl rfl (by kernel_rfl) (by kernel_rfl) (by kernel_rfl) (fun _ _ _ h => h) (by rfl) (fun w' hS => by (clear hS; go_simp)) hS ?_
          simp only [Act.put, List.setIfInBounds_toArray, List.set_cons_zero, List.set_cons_succ]
          refine takeL (i := 10) (some 30) 40 (.tmp 29) b (off + k0 * 14) (mbC (L k0)) _ rfl rfl (by kernel_rfl) (by kernel_rfl) (by kernel_rfl) (fun _ _ _ h => h) (by rfl) rfl rfl (fun w' hS => rangeAt_below (HR.out.2 k0 H0n.out) hS.2 HR.out.1) Try.underlying40 rfl info_mbP hS ?_
          simp only [Act.put, List.setIfInBounds_toArray, List.set_cons_zero, List.set_cons_succ]
          refine takeC (i := 11) (some 31) 19 #[.agg (mbC (⟨ms, mk, mp, true⟩ : Mb)), .agg (mbC (L k0))] (.bool false) (R := fun w' => Below W3.heap.size W3 w') rfl rfl (by kernel_rfl) (by rfl) (by go_simp) (by have h9 := ahead_any (⟨ms, mk, mp, true⟩ : Mb) (L k0) W3 HOm.out (HOk.out k0); rw [HQ.out] at h9; exact h9) (fun w' hb => ⟨hS.1.below hb hS.1.lt, hS.2.trans (hb.mono hS.2.size)⟩) (fun W4 hb1 hS2 => ?_)
          simp only [Act.put, List.setIfInBounds_toArray, List.set_cons_zero, List.set_cons_succ]
          clear K7
          clear HW
          clear hS hb1
          have hS := hS2
          clear hS2
          have K7 := Lib.hid hS.1
          have HW := Lib.hid hS.2
          refine takeY (i := 12) (some 32) (v := .bool false) rfl rfl (by kernel_rfl) (by kernel_rfl) (by kernel_rfl) (fun _ _ _ h => h) (by rfl) (fun w' hS => by go_simp) hS ?_
          simp only [Act.put, List.setIfInBounds_toArray, List.set_cons_zero, List.set_cons_succ]
          refine takeY (i := 13) (some 33) (v := .bool false) rfl rfl (by kernel_rfl) (by kernel_rfl) (by kernel_rfl) (fun _ _ _ h => h) (by rfl) (fun w' hS => by go_simp) hS ?_
          simp only [Act.put, List.setIfInBounds_toArray, List.set_cons_zero, List.set_cons_succ]
          clear hS
          refine wpAnyH_done (by kernel_rfl) ?_ _
          go_wp2_with fail
          go_roundw
          case rel => exact ⟨(k0 : Int), k + 1, by omega, by simp, by go_num, Lib.hid (best_behind HF.out (by rw [HMk.out]; exact of_decide_eq_false HQ.out)), HW⟩
          case measure => simp only [intOf]; omega
        · skip
          refine wp_region_held_drew (S := fun w' => Blk 40 w' N1 (mbC (⟨ms, mk, mp, true⟩ : Mb)) ∧ Below w.heap.size w w') (by kernel_rfl) ⟨K7.out, HW.out.drew⟩ (fun hS => ?_)
          generalize hW3 : w2.drew = W3 at hS ⊢
          clear hW3
          clear K7
          clear HW
          have K7 := Lib.hid hS.1
          have HW := Lib.hid hS.2
          refine takeY (i := 0) (some 20) (v := .pointer (some ⟨N1, 13, none⟩)) rfl rfl (by kernel_rfl) (by kernel_rfl) (by kernel_rfl) (fun _ _ _ h => h) (by rfl) (fun w' hS => by go_simp) hS ?_
          simp only [Act.put, List.setIfInBounds_toArray, List.set_cons_zero, List.set_cons_succ]
          refine takeY (i := 1) (some 21) (v := .bool true) rfl rfl (by kernel_rfl) (by kernel_rfl) (by kernel_rfl) (fun _ _ _ h => h) (by rfl) (fun w' hS => by (have c9 : w'.cell? ⟨N1, 13, none⟩ = some (.bool true) := (hS.1.cell 13).trans rfl; clear hS; go_simp)) hS ?_
          simp only [Act.put, List.setIfInBounds_toArray, List.set_cons_zero, List.set_cons_succ]
          refine takeY (i := 2) (some 22) (v := .bool true) rfl rfl (by kernel_rfl) (by kernel_rfl) (by kernel_rfl) (fun _ _ _ h => h) (by rfl) (fun w' hS => by go_simp) hS ?_
          simp only [Act.put, List.setIfInBounds_toArray, List.set_cons_zero, List.set_cons_succ]
          refine takeY (i := 3) (some 23) (v := .int .i64 (k0 : Int)) rfl rfl (by kernel_rfl) (by kernel_rfl) (by kernel_rfl) (fun _ _ _ h => h) (by rfl) (fun w' hS => by go_simp) hS ?_
          simp only [Act.put, List.setIfInBounds_toArray, List.set_cons_zero, List.set_cons_succ]
          refine takeY (i := 4) (some 24) (v := .bool false) rfl rfl (by kernel_rfl) (by kernel_rfl) (by kernel_rfl) (fun _ _ _ h => h) (by rfl) (fun w' hS => by (clear hS; go_simp)) hS ?_
          simp only [Act.put, List.setIfInBounds_toArray, List.set_cons_zero, List.set_cons_succ]
          refine takeY (i := 5) (some 25) (v := .bool false) rfl rfl (by kernel_rfl) (by kernel_rfl) (by kernel_rfl) (fun _ _ _ h => h) (by rfl) (fun w' hS => by go_simp) hS ?_
          simp only [Act.put, List.setIfInBounds_toArray, List.set_cons_zero, List.set_cons_succ]
          refine takeL (i := 6) (some 26) 40 (.tmp 7) N1 0 (mbC (⟨ms, mk, mp, true⟩ : Mb)) _ rfl rfl (by kernel_rfl) (by kernel_rfl) (by kernel_rfl) (fun _ _ _ h => h) (by rfl) rfl rfl (fun w' hS => hS.1.all) Try.underlying40 rfl info_mbP hS ?_
          simp only [Act.put, List.setIfInBounds_toArray, List.set_cons_zero, List.set_cons_succ]
          refine takeY (i := 7) (some 27) (v := .slice (some ⟨b, off, none⟩) n c) rfl rfl (by kernel_rfl) (by kernel_rfl) (by kernel_rfl) (fun _ _ _ h => h) (by rfl) (fun w' hS => by go_simp) hS ?_
          simp only [Act.put, List.setIfInBounds_toArray, List.set_cons_zero, List.set_cons_succ]
          refine takeY (i := 8) (some 28) (v := .int .i64 (k0 : Int)) rfl rfl (by kernel_rfl) (by kernel_rfl) (by kernel_rfl) (fun _ _ _ h => h) (by rfl) (fun w' hS => by go_simp) hS ?_
          simp only [Act.put, List.setIfInBounds_toArray, List.set_cons_zero, List.set_cons_succ]
          refine takeY (i := 9) (some 29) (v := .pointer (some ⟨b, off + k0 * 14, none⟩)) rfl rfl (by kernel_rfl) (by kernel_rfl) (by kernel_rfl) (fun _ _ _ h => h) (by rfl) (fun w' hS => by (clear hS; go_simp)) hS ?_
          simp only [Act.put, List.setIfInBounds_toArray, List.set_cons_zero, List.set_cons_succ]
          refine takeL (i := 10) (some 30) 40 (.tmp 29) b (off + k0 * 14) (mbC (L k0)) _ rfl rfl (by kernel_rfl) (by kernel_rfl) (by kernel_rfl) (fun _ _ _ h => h) (by rfl) rfl rfl (fun w' hS => rangeAt_below (HR.out.2 k0 H0n.out) hS.2 HR.out.1) Try.underlying40 rfl info_mbP hS ?_
          simp only [Act.put, List.setIfInBounds_toArray, List.set_cons_zero, List.set_cons_succ]
          refine takeC (i := 11) (some 31) 19 #[.agg (mbC (⟨ms, mk, mp, true⟩ : Mb)), .agg (mbC (L k0))] (.bool true) (R := fun w' => Below W3.heap.size W3 w') rfl rfl (by kernel_rfl) (by rfl) (by go_simp) (by have h9 := ahead_any (⟨ms, mk, mp, true⟩ : Mb) (L k0) W3 HOm.out (HOk.out k0); rw [HQ.out] at h9; exact h9) (fun w' hb => ⟨hS.1.below hb hS.1.lt, hS.2.trans (hb.mono hS.2.size)⟩) (fun W4 hb1 hS2 => ?_)
          simp only [Act.put, List.setIfInBounds_toArray, List.set_cons_zero, List.set_cons_succ]
          clear K7
          clear HW
          clear hS hb1
          have hS := hS2
          clear hS2
          have K7 := Lib.hid hS.1
          have HW := Lib.hid hS.2
          refine takeY (i := 12) (some 32) (v := .bool true) rfl rfl (by kernel_rfl) (by kernel_rfl) (by kernel_rfl) (fun _ _ _ h => h) (by rfl) (fun w' hS => by go_simp) hS ?_
          simp only [Act.put, List.setIfInBounds_toArray, List.set_cons_zero, List.set_cons_succ]
          refine takeY (i := 13) (some 33) (v := .bool true) rfl rfl (by kernel_rfl) (by kernel_rfl) (by kernel_rfl) (fun _ _ _ h => h) (by rfl) (fun w' hS => by go_simp) hS ?_
          simp only [Act.put, List.setIfInBounds_toArray, List.set_cons_zero, List.set_cons_succ]
          clear hS
          refine wpAnyH_done (by kernel_rfl) ?_ _
          go_wp2_with fail
          go_roundw
          case rel => exact ⟨(k : Int), k + 1, by omega, by simp, by go_num, Lib.hid (best_ahead HF.out (by rw [HMk.out]) (by rw [HMk.out]; exact of_decide_eq_true HQ.out)), HW⟩
          case measure => simp only [intOf]; omega
end Go.Proofs.Ytahflakanbhapaa
