/- SamePrefixes: two lists with the same prefixes are alike. Each theorem states its conditions. -/
import Derived.Test.YtldgfjcdlkbngaaTrV
namespace Go.Proofs.Ytldgfjcdlkbngaa
open Go.RowKit
set_option linter.unusedVariables false
set_option linter.unusedSimpArgs false

theorem rdR_at {w w' : World} {b off m s B : Nat} {C : Nat → Array Value} (h : RowR w b off m s C) (hb : Below B w w') (hB : b < B) (j : Nat) (hj : j < m) : w'.rangeAt b (off + j * s) (C j).toList := rangeAt_below (h.2 j hj) hb hB
set_option maxHeartbeats 16000000 in
set_option maxRecDepth 100000 in
theorem sameP (a a' : Option Addr) (n c c' : Nat) (P P' : Nat → Pf) (hP : ∀ j, Bytes (P j).z) (he : ∀ j, j < n → pfC (P j) = pfC (P' j)) (hn : n ≤ 1000000) (w : World) (h1 : RdR w a n 18 (fun j => pfC (P j))) (h2 : RdR w a' n 18 (fun j => pfC (P' j))) :
    Calls Try.prog 21 #[.slice a n c, .slice a' n c'] w fun e w' => e = .returned (.bool true) ∧ Below w.heap.size w w' := by
  have HP := Lib.hid hP
  have HNN := Lib.hid hn
  clear hn
  have HE := Lib.hid he
  have H1 := Lib.hid h1
  have H2 := Lib.hid h2
  clear hP he h1 h2
  go_enter Try.func21, Try.ntmps21
  go_wp2_with fail
  go_loopw [13] (fun t wr => ∃ i : Nat, i ≤ n ∧ t = .int .i64 i ∧ Hid (Below w.heap.size w wr)) (fun t _ => n - (intOf t).toNat)
  case atStart => exact ⟨0, by omega, rfl, Lib.hid (Below.refl _ _)⟩
  case round =>
    obtain ⟨i, hi, rfl, hb⟩ := hrel
    by_cases hin : i < n
    · have hii : (i : Int) < (n : Int) := by omega
      obtain ⟨b1, o1, rfl, r1⟩ := H1.out.row (by omega)
      obtain ⟨b2, o2, rfl, r2⟩ := H2.out.row (by omega)
      have R1 := Lib.hid r1
      have R2 := Lib.hid r2
      have HCI := Lib.hid (HE.out i hin)
      have hi0 : (0 : Int) ≤ (i : Int) := by omega
      have HIN := Lib.hid hin
      clear H1 H2 r1 r2 hin hi
      go_wp2_with fail
      refine wp_region_held_drew (S := fun w' => Below w.heap.size w w') (by kernel_rfl) hb.out.drew (fun hS => ?_)
      generalize hW5 : wr.drew = W5 at hS ⊢
      clear hW5 hb
      refine takeY (i := 0) (some 16) (v := .slice (some ⟨b1, o1, none⟩) n c) rfl rfl (by kernel_rfl) (by kernel_rfl) (by kernel_rfl) (fun _ _ _ h => h) (by rfl) (fun w' hS => by clear hS; go_simp) hS ?_
      simp only [Act.put, List.setIfInBounds_toArray, List.set_cons_zero, List.set_cons_succ]
      refine takeY (i := 1) (some 17) (v := .int .i64 i) rfl rfl (by kernel_rfl) (by kernel_rfl) (by kernel_rfl) (fun _ _ _ h => h) (by rfl) (fun w' hS => by clear hS; go_simp) hS ?_
      simp only [Act.put, List.setIfInBounds_toArray, List.set_cons_zero, List.set_cons_succ]
      refine takeY (i := 2) (some 18) (v := .pointer (some ⟨b1, o1 + i * 18, none⟩)) rfl rfl (by kernel_rfl) (by kernel_rfl) (by kernel_rfl) (fun _ _ _ h => h) (by rfl) (fun w' hS => by clear hS; go_simp) hS ?_
      simp only [Act.put, List.setIfInBounds_toArray, List.set_cons_zero, List.set_cons_succ]
      refine takeL (i := 3) (some 19) 32 (.tmp 18) b1 (o1 + i * 18) (pfC (P i)) _ rfl rfl (by kernel_rfl) (by kernel_rfl) (by kernel_rfl) (fun _ _ _ h => h) (by rfl) rfl rfl (fun w' hS => rdR_at R1.out hS R1.out.1 i HIN.out) Try.underlying32 rfl (hi_pv _ _ _) hS ?_
      simp only [Act.put, List.setIfInBounds_toArray, List.set_cons_zero, List.set_cons_succ]
      refine takeY (i := 4) (some 20) (v := (.slice (some ⟨b2, o2, none⟩) n c')) rfl rfl (by kernel_rfl) (by kernel_rfl) (by kernel_rfl) (fun _ _ _ h => h) (by rfl) (fun w' hS => by clear hS; go_simp) hS ?_
      simp only [Act.put, List.setIfInBounds_toArray, List.set_cons_zero, List.set_cons_succ]
      refine takeY (i := 5) (some 21) (v := .int .i64 i) rfl rfl (by kernel_rfl) (by kernel_rfl) (by kernel_rfl) (fun _ _ _ h => h) (by rfl) (fun w' hS => by clear hS; go_simp) hS ?_
      simp only [Act.put, List.setIfInBounds_toArray, List.set_cons_zero, List.set_cons_succ]
      refine takeY (i := 6) (some 22) (v := .pointer (some ⟨b2, o2 + i * 18, none⟩)) rfl rfl (by kernel_rfl) (by kernel_rfl) (by kernel_rfl) (fun _ _ _ h => h) (by rfl) (fun w' hS => by clear hS; go_simp) hS ?_
      simp only [Act.put, List.setIfInBounds_toArray, List.set_cons_zero, List.set_cons_succ]
      refine takeL (i := 7) (some 23) 32 (.tmp 22) b2 (o2 + i * 18) (pfC (P' i)) _ rfl rfl (by kernel_rfl) (by kernel_rfl) (by kernel_rfl) (fun _ _ _ h => h) (by rfl) rfl rfl (fun w' hS => rdR_at R2.out hS R2.out.1 i HIN.out) Try.underlying32 rfl (hi_pv _ _ _) hS ?_
      simp only [Act.put, List.setIfInBounds_toArray, List.set_cons_zero, List.set_cons_succ]
      rw [← HCI.out]
      refine takeY (i := 8) (some 24) (v := .bool false) rfl rfl (by kernel_rfl) (by kernel_rfl) (by kernel_rfl) (fun _ _ _ h => h) (by rfl) (fun w' hS => by clear hS; refine (neq_pv _ _ _ _ rfl (P i).fam (P i).len (P i).z (P i).fam (P i).len (P i).z (HP.out i) (HP.out i) rfl rfl _).trans ?_; simp [Same16]) hS ?_
      simp only [Act.put, List.setIfInBounds_toArray, List.set_cons_zero, List.set_cons_succ]
      have HB := Lib.hid hS
      clear hS
      refine wpAnyH_done (by kernel_rfl) ?_ _
      have hnb : (i : Int) < 1000000 := by have := HNN.out; have := HIN.out; omega
      go_wp2
      go_roundw
      case rel => exact ⟨i + 1, by have := HIN.out; omega, by go_num, HB⟩
      case measure => have := HIN.out; simp only [intOf]; omega
    · have hii : ¬ (i : Int) < (n : Int) := by omega
      clear hin hi
      go_wp2
      refine bodyPost_ret (v := .bool true) (by simp [results, Try.f21, go_sem]) rfl ?_
      exact ⟨rfl, hb.out⟩
end Go.Proofs.Ytldgfjcdlkbngaa
