/- TrieNil, walked: a nil trie. No condition. -/
import Derived.Test.YtadmiadallflfaaTrOp
import Derived.Test.YtadmiadallflfaaTrAw
namespace Go.Proofs.Ytadmiadallflfaa
open Go.RowKit
set_option linter.unusedVariables false
set_option linter.unusedSimpArgs false

set_option maxHeartbeats 64000000 in
set_option maxRecDepth 100000 in
theorem walkTrieNil (x0 : Opx) (a1 : Int) (x2 : Nat → Int) (w : World) (h0 : PvOk x0.p) (h1 : (Lit.int .u8 a1).wf = true) (h2 : Bytes x2) :
    Calls Try.prog 4 #[.agg (opxC x0), .int .u8 a1, .agg (agC x2)] w fun e w' => e = .returned (.bool true) ∧ Below w.heap.size w w' := by
  obtain ⟨k, p, v⟩ := x0
  have HP := Lib.hid h0.2.2
  have HX2 := Lib.hid h2
  have HAW := Lib.hid awake_any
  have HLK := Lib.hid (fun W => looks_nil k a1 v p x2 h0.2.2 h2 W)
  have HIN := Lib.hid (fun W => insN p.fam p.len v p.z h0.2.2 W)
  have HDI := Lib.hid (fun W => diN p.fam p.len v p.z h0.2.2 W)
  have HRN := Lib.hid (fun W => remN p.fam p.len p.z h0.2.2 W)
  have HDR := Lib.hid (fun W => drN p.fam p.len p.z h0.2.2 W)
  have HTL := Lib.hid tlist_nil
  have HLN := Lib.hid len_nil
  obtain ⟨E, hE⟩ : ∃ E, eN p.fam p.len p.z = E := ⟨_, rfl⟩
  rw [hE] at HIN HDI HRN HDR
  clear h0 h1 h2 hE
  show Calls Try.prog 4 #[.agg (opC k p v), .int .u8 a1, .agg (agC x2)] w _
  go_enter Try.func4, Try.ntmps4
  have HB := Lib.hid (Below.refl w.heap.size w)
  obtain ⟨N1, hN1⟩ : ∃ N, w.heap.size = N := ⟨_, rfl⟩
  have HN1 := Lib.hid hN1
  clear hN1
  go_wp2_with (refine wpList_box (op := ⟨some 3, _, _, _, _, _⟩) rfl 34 (.tmp 0) rfl (opC k p v) rfl N1 HN1.out ?_; intro w1 k1 b1 s1; refine Hid.out ?_)
  refine Lib.hid ?_
  have K3 := Lib.hid k1
  clear k1
  have le_HB_N1 : w.heap.size ≤ N1 := by rw [← HN1.out]; exact HB.out.size
  have HBn := Lib.hid (HB.out.trans (b1.mono HB.out.size))
  clear HB
  have HB := HBn
  clear HBn
  clear b1 HN1
  obtain ⟨N2, hN2⟩ : ∃ N, w1.heap.size = N := ⟨_, rfl⟩
  have HN2 := Lib.hid hN2
  clear hN2
  go_wp2_with (refine wpList_box (op := ⟨some 5, _, _, _, _, _⟩) rfl 23 (.tmp 2) rfl (agC x2) rfl N2 HN2.out ?_; intro w2 k1 b1 s1; refine Hid.out ?_)
  refine Lib.hid ?_
  have K5 := Lib.hid k1
  clear k1
  have lt_N1_N2 : N1 < N2 := by rw [← HN2.out]; exact K3.out.lt
  have le_HB_N2 : w.heap.size ≤ N2 := by rw [← HN2.out]; exact HB.out.size
  have K3n := Lib.hid (K3.out.below b1 K3.out.lt)
  clear K3
  have K3 := K3n
  clear K3n
  have HBn := Lib.hid (HB.out.trans (b1.mono HB.out.size))
  clear HB
  have HB := HBn
  clear HBn
  clear b1 HN2
  go_wp2_with fail
  refine wp_region_held_drew (S := fun w' => Blk 34 w' N1 (opC k p v) ∧ Blk 23 w' N2 (agC x2) ∧ Below w.heap.size w w') (by kernel_rfl) ⟨K3.out, K5.out, HB.out.drew⟩ (fun hS => ?_)
  generalize hW3 : w2.drew = W3 at hS  ⊢
  clear hW3
  clear K3
  clear K5
  clear HB
  have K3 := Lib.hid hS.1
  have K5 := Lib.hid hS.2.1
  have HB := Lib.hid hS.2.2
  refine takeC (i := 0) (some 8) 12 #[] (.bool true) (R := fun w' => Below W3.heap.size W3 w') rfl rfl (by kernel_rfl) (by rfl) (by go_simp) (HAW.out _) (fun w' hb => ⟨hS.1.below hb hS.1.lt, hS.2.1.below hb hS.2.1.lt, hS.2.2.trans (hb.mono hS.2.2.size)⟩) (fun W4 hb1 hS2 => ?_)
  simp only [Act.put, List.setIfInBounds_toArray, List.set_cons_zero, List.set_cons_succ]
  clear K3
  clear K5
  clear HB
  clear hS hb1
  have hS := hS2
  clear hS2
  have K3 := Lib.hid hS.1
  have K5 := Lib.hid hS.2.1
  have HB := Lib.hid hS.2.2
  refine takeY (i := 1) (some 9) (v := .bool true) rfl rfl (by kernel_rfl) (by kernel_rfl) (by kernel_rfl) (fun _ _ _ h => h) (by rfl) (fun w' hS => by clear hS; go_simp) hS ?_
  simp only [Act.put, List.setIfInBounds_toArray, List.set_cons_zero, List.set_cons_succ]
  refine takeY (i := 2) (some 10) (v := .pointer none) rfl rfl (by kernel_rfl) (by kernel_rfl) (by kernel_rfl) (fun _ _ _ h => h) (by rfl) (fun w' hS => by clear hS; go_simp) hS ?_
  simp only [Act.put, List.setIfInBounds_toArray, List.set_cons_zero, List.set_cons_succ]
  refine takeL (i := 3) (some 11) 34 (.tmp 3) N1 0 (opC k p v) _ rfl rfl (by kernel_rfl) (by kernel_rfl) (by kernel_rfl) (fun _ _ _ h => h) (by rfl) rfl rfl (fun w' hS => hS.1.all) Try.underlying34 rfl (by kernel_rfl) hS ?_
  simp only [Act.put, List.setIfInBounds_toArray, List.set_cons_zero, List.set_cons_succ]
  refine takeY (i := 4) (some 12) (v := .int .u8 a1) rfl rfl (by kernel_rfl) (by kernel_rfl) (by kernel_rfl) (fun _ _ _ h => h) (by rfl) (fun w' hS => by clear hS; go_simp) hS ?_
  simp only [Act.put, List.setIfInBounds_toArray, List.set_cons_zero, List.set_cons_succ]
  refine takeL (i := 5) (some 13) 23 (.tmp 5) N2 0 (agC x2) _ rfl rfl (by kernel_rfl) (by kernel_rfl) (by kernel_rfl) (fun _ _ _ h => h) (by rfl) rfl rfl (fun w' hS => hS.2.1.all) Try.underlying23 rfl (hi_ag x2) hS ?_
  simp only [Act.put, List.setIfInBounds_toArray, List.set_cons_zero, List.set_cons_succ]
  refine takeC (i := 6) (some 14) 18 #[.pointer none, .pointer none, .agg (opC k p v), .int .u8 a1, .agg (agC x2)] (.bool true) (R := fun w' => Below W4.heap.size W4 w') rfl rfl (by kernel_rfl) (by rfl) (by go_simp) (HLK.out _) (fun w' hb => ⟨hS.1.below hb hS.1.lt, hS.2.1.below hb hS.2.1.lt, hS.2.2.trans (hb.mono hS.2.2.size)⟩) (fun W5 hb1 hS2 => ?_)
  simp only [Act.put, List.setIfInBounds_toArray, List.set_cons_zero, List.set_cons_succ]
  clear K3
  clear K5
  clear HB
  clear hS hb1
  have hS := hS2
  clear hS2
  have K3 := Lib.hid hS.1
  have K5 := Lib.hid hS.2.1
  have HB := Lib.hid hS.2.2
  refine takeY (i := 7) (some 15) (v := .bool true) rfl rfl (by kernel_rfl) (by kernel_rfl) (by kernel_rfl) (fun _ _ _ h => h) (by rfl) (fun w' hS => by clear hS; go_simp) hS ?_
  simp only [Act.put, List.setIfInBounds_toArray, List.set_cons_zero, List.set_cons_succ]
  refine takeY (i := 8) (some 16) (v := .bool true) rfl rfl (by kernel_rfl) (by kernel_rfl) (by kernel_rfl) (fun _ _ _ h => h) (by rfl) (fun w' hS => by clear hS; go_simp) hS ?_
  simp only [Act.put, List.setIfInBounds_toArray, List.set_cons_zero, List.set_cons_succ]
  refine takeY (i := 9) (some 17) (v := .pointer none) rfl rfl (by kernel_rfl) (by kernel_rfl) (by kernel_rfl) (fun _ _ _ h => h) (by rfl) (fun w' hS => by clear hS; go_simp) hS ?_
  simp only [Act.put, List.setIfInBounds_toArray, List.set_cons_zero, List.set_cons_succ]
  refine takeY (i := 10) (some 18) (v := .pointer (some ⟨N1, 1, none⟩)) rfl rfl (by kernel_rfl) (by kernel_rfl) (by kernel_rfl) (fun _ _ _ h => h) (by rfl) (fun w' hS => by clear hS; go_simp) hS ?_
  simp only [Act.put, List.setIfInBounds_toArray, List.set_cons_zero, List.set_cons_succ]
  refine takeL (i := 11) (some 19) 32 (.tmp 18) N1 1 (pfC p) _ rfl rfl (by kernel_rfl) (by kernel_rfl) (by kernel_rfl) (fun _ _ _ h => h) (by rfl) rfl rfl (fun w' hS => hS.1.oppv) Try.underlying32 rfl (hi_pv _ _ _) hS ?_
  simp only [Act.put, List.setIfInBounds_toArray, List.set_cons_zero, List.set_cons_succ]
  refine takeY (i := 12) (some 20) (v := .pointer (some ⟨N1, 19, none⟩)) rfl rfl (by kernel_rfl) (by kernel_rfl) (by kernel_rfl) (fun _ _ _ h => h) (by rfl) (fun w' hS => by clear hS; go_simp) hS ?_
  simp only [Act.put, List.setIfInBounds_toArray, List.set_cons_zero, List.set_cons_succ]
  refine takeY (i := 13) (some 21) (v := .int .i64 v) rfl rfl (by kernel_rfl) (by kernel_rfl) (by kernel_rfl) (fun _ _ _ h => h) (by rfl) (fun w' hS => by (have c9 : w'.cell? ⟨N1, 19, none⟩ = some (.int .i64 v) := (hS.1.cell 19).trans rfl; clear hS; go_simp)) hS ?_
  simp only [Act.put, List.setIfInBounds_toArray, List.set_cons_zero, List.set_cons_succ]
  refine takeY (i := 15) (some 23) (v := .pointer (some ⟨N1, 1, none⟩)) rfl rfl (by kernel_rfl) (by kernel_rfl) (by kernel_rfl) (fun _ _ _ h => h) (by rfl) (fun w' hS => by clear hS; go_simp) hS ?_
  simp only [Act.put, List.setIfInBounds_toArray, List.set_cons_zero, List.set_cons_succ]
  refine takeL (i := 16) (some 24) 32 (.tmp 23) N1 1 (pfC p) _ rfl rfl (by kernel_rfl) (by kernel_rfl) (by kernel_rfl) (fun _ _ _ h => h) (by rfl) rfl rfl (fun w' hS => hS.1.oppv) Try.underlying32 rfl (hi_pv _ _ _) hS ?_
  simp only [Act.put, List.setIfInBounds_toArray, List.set_cons_zero, List.set_cons_succ]
  refine takeY (i := 17) (some 25) (v := .pointer (some ⟨N1, 19, none⟩)) rfl rfl (by kernel_rfl) (by kernel_rfl) (by kernel_rfl) (fun _ _ _ h => h) (by rfl) (fun w' hS => by clear hS; go_simp) hS ?_
  simp only [Act.put, List.setIfInBounds_toArray, List.set_cons_zero, List.set_cons_succ]
  refine takeY (i := 18) (some 26) (v := .int .i64 v) rfl rfl (by kernel_rfl) (by kernel_rfl) (by kernel_rfl) (fun _ _ _ h => h) (by rfl) (fun w' hS => by (have c9 : w'.cell? ⟨N1, 19, none⟩ = some (.int .i64 v) := (hS.1.cell 19).trans rfl; clear hS; go_simp)) hS ?_
  simp only [Act.put, List.setIfInBounds_toArray, List.set_cons_zero, List.set_cons_succ]
  refine takeC (i := 14) (some 22) 14 #[.pointer none, .agg (pfC p), .int .i64 v] (.int .i64 E) (R := fun w' => Below W5.heap.size W5 w') rfl rfl (by kernel_rfl) (by rfl) (by go_simp) (HIN.out _) (fun w' hb => ⟨hS.1.below hb hS.1.lt, hS.2.1.below hb hS.2.1.lt, hS.2.2.trans (hb.mono hS.2.2.size)⟩) (fun W6 hb1 hS2 => ?_)
  simp only [Act.put, List.setIfInBounds_toArray, List.set_cons_zero, List.set_cons_succ]
  clear K3
  clear K5
  clear HB
  clear hS hb1
  have hS := hS2
  clear hS2
  have K3 := Lib.hid hS.1
  have K5 := Lib.hid hS.2.1
  have HB := Lib.hid hS.2.2
  refine takeC (i := 19) (some 27) 15 #[.pointer none, .agg (pfC p), .int .i64 v] (.int .i64 E) (R := fun w' => Below W6.heap.size W6 w') rfl rfl (by kernel_rfl) (by rfl) (by go_simp) (HDI.out _) (fun w' hb => ⟨hS.1.below hb hS.1.lt, hS.2.1.below hb hS.2.1.lt, hS.2.2.trans (hb.mono hS.2.2.size)⟩) (fun W7 hb1 hS2 => ?_)
  simp only [Act.put, List.setIfInBounds_toArray, List.set_cons_zero, List.set_cons_succ]
  clear K3
  clear K5
  clear HB
  clear hS hb1
  have hS := hS2
  clear hS2
  have K3 := Lib.hid hS.1
  have K5 := Lib.hid hS.2.1
  have HB := Lib.hid hS.2.2
  refine takeY (i := 20) (some 28) (v := .bool true) rfl rfl (by kernel_rfl) (by kernel_rfl) (by kernel_rfl) (fun _ _ _ h => h) (by rfl) (fun w' hS => by clear hS; exact eqI_run _ _ _ _ _ rfl E rfl rfl _) hS ?_
  simp only [Act.put, List.setIfInBounds_toArray, List.set_cons_zero, List.set_cons_succ]
  refine takeY (i := 21) (some 29) (v := .bool true) rfl rfl (by kernel_rfl) (by kernel_rfl) (by kernel_rfl) (fun _ _ _ h => h) (by rfl) (fun w' hS => by clear hS; go_simp) hS ?_
  simp only [Act.put, List.setIfInBounds_toArray, List.set_cons_zero, List.set_cons_succ]
  refine takeY (i := 22) (some 30) (v := .bool true) rfl rfl (by kernel_rfl) (by kernel_rfl) (by kernel_rfl) (fun _ _ _ h => h) (by rfl) (fun w' hS => by clear hS; go_simp) hS ?_
  simp only [Act.put, List.setIfInBounds_toArray, List.set_cons_zero, List.set_cons_succ]
  refine takeY (i := 23) (some 31) (v := .pointer none) rfl rfl (by kernel_rfl) (by kernel_rfl) (by kernel_rfl) (fun _ _ _ h => h) (by rfl) (fun w' hS => by clear hS; go_simp) hS ?_
  simp only [Act.put, List.setIfInBounds_toArray, List.set_cons_zero, List.set_cons_succ]
  refine takeY (i := 24) (some 32) (v := .pointer (some ⟨N1, 1, none⟩)) rfl rfl (by kernel_rfl) (by kernel_rfl) (by kernel_rfl) (fun _ _ _ h => h) (by rfl) (fun w' hS => by clear hS; go_simp) hS ?_
  simp only [Act.put, List.setIfInBounds_toArray, List.set_cons_zero, List.set_cons_succ]
  refine takeL (i := 25) (some 33) 32 (.tmp 32) N1 1 (pfC p) _ rfl rfl (by kernel_rfl) (by kernel_rfl) (by kernel_rfl) (fun _ _ _ h => h) (by rfl) rfl rfl (fun w' hS => hS.1.oppv) Try.underlying32 rfl (hi_pv _ _ _) hS ?_
  simp only [Act.put, List.setIfInBounds_toArray, List.set_cons_zero, List.set_cons_succ]
  refine takeY (i := 27) (some 35) (v := .pointer (some ⟨N1, 1, none⟩)) rfl rfl (by kernel_rfl) (by kernel_rfl) (by kernel_rfl) (fun _ _ _ h => h) (by rfl) (fun w' hS => by clear hS; go_simp) hS ?_
  simp only [Act.put, List.setIfInBounds_toArray, List.set_cons_zero, List.set_cons_succ]
  refine takeL (i := 28) (some 36) 32 (.tmp 35) N1 1 (pfC p) _ rfl rfl (by kernel_rfl) (by kernel_rfl) (by kernel_rfl) (fun _ _ _ h => h) (by rfl) rfl rfl (fun w' hS => hS.1.oppv) Try.underlying32 rfl (hi_pv _ _ _) hS ?_
  simp only [Act.put, List.setIfInBounds_toArray, List.set_cons_zero, List.set_cons_succ]
  refine takeC (i := 26) (some 34) 16 #[.pointer none, .agg (pfC p)] (.int .i64 E) (R := fun w' => Below W7.heap.size W7 w') rfl rfl (by kernel_rfl) (by rfl) (by go_simp) (HRN.out _) (fun w' hb => ⟨hS.1.below hb hS.1.lt, hS.2.1.below hb hS.2.1.lt, hS.2.2.trans (hb.mono hS.2.2.size)⟩) (fun W8 hb1 hS2 => ?_)
  simp only [Act.put, List.setIfInBounds_toArray, List.set_cons_zero, List.set_cons_succ]
  clear K3
  clear K5
  clear HB
  clear hS hb1
  have hS := hS2
  clear hS2
  have K3 := Lib.hid hS.1
  have K5 := Lib.hid hS.2.1
  have HB := Lib.hid hS.2.2
  refine takeC (i := 29) (some 37) 17 #[.pointer none, .agg (pfC p)] (.int .i64 E) (R := fun w' => Below W8.heap.size W8 w') rfl rfl (by kernel_rfl) (by rfl) (by go_simp) (HDR.out _) (fun w' hb => ⟨hS.1.below hb hS.1.lt, hS.2.1.below hb hS.2.1.lt, hS.2.2.trans (hb.mono hS.2.2.size)⟩) (fun W9 hb1 hS2 => ?_)
  simp only [Act.put, List.setIfInBounds_toArray, List.set_cons_zero, List.set_cons_succ]
  clear K3
  clear K5
  clear HB
  clear hS hb1
  have hS := hS2
  clear hS2
  have K3 := Lib.hid hS.1
  have K5 := Lib.hid hS.2.1
  have HB := Lib.hid hS.2.2
  refine takeY (i := 30) (some 38) (v := .bool true) rfl rfl (by kernel_rfl) (by kernel_rfl) (by kernel_rfl) (fun _ _ _ h => h) (by rfl) (fun w' hS => by clear hS; exact eqI_run _ _ _ _ _ rfl E rfl rfl _) hS ?_
  simp only [Act.put, List.setIfInBounds_toArray, List.set_cons_zero, List.set_cons_succ]
  refine takeY (i := 31) (some 39) (v := .bool true) rfl rfl (by kernel_rfl) (by kernel_rfl) (by kernel_rfl) (fun _ _ _ h => h) (by rfl) (fun w' hS => by clear hS; go_simp) hS ?_
  simp only [Act.put, List.setIfInBounds_toArray, List.set_cons_zero, List.set_cons_succ]
  refine takeY (i := 32) (some 40) (v := .bool true) rfl rfl (by kernel_rfl) (by kernel_rfl) (by kernel_rfl) (fun _ _ _ h => h) (by rfl) (fun w' hS => by clear hS; go_simp) hS ?_
  simp only [Act.put, List.setIfInBounds_toArray, List.set_cons_zero, List.set_cons_succ]
  refine takeY (i := 33) (some 41) (v := .pointer none) rfl rfl (by kernel_rfl) (by kernel_rfl) (by kernel_rfl) (fun _ _ _ h => h) (by rfl) (fun w' hS => by clear hS; go_simp) hS ?_
  simp only [Act.put, List.setIfInBounds_toArray, List.set_cons_zero, List.set_cons_succ]
  refine takeC (i := 34) (some 42) 20 #[.pointer none] (.slice none 0 0) (R := fun w' => W9 = w') rfl rfl (by kernel_rfl) (by rfl) (by go_simp) (HTL.out _) (fun w' hb => hb ▸ hS) (fun W10 hb1 hS2 => ?_)
  subst hb1
  clear hS2
  simp only [Act.put, List.setIfInBounds_toArray, List.set_cons_zero, List.set_cons_succ]
  refine takeY (i := 35) (some 43) (v := .int .i64 0) rfl rfl (by kernel_rfl) (by kernel_rfl) (by kernel_rfl) (fun _ _ _ h => h) (by rfl) (fun w' hS => by clear hS; go_simp) hS ?_
  simp only [Act.put, List.setIfInBounds_toArray, List.set_cons_zero, List.set_cons_succ]
  refine takeY (i := 36) (some 44) (v := .bool true) rfl rfl (by kernel_rfl) (by kernel_rfl) (by kernel_rfl) (fun _ _ _ h => h) (by rfl) (fun w' hS => by clear hS; go_simp) hS ?_
  simp only [Act.put, List.setIfInBounds_toArray, List.set_cons_zero, List.set_cons_succ]
  refine takeY (i := 37) (some 45) (v := .bool true) rfl rfl (by kernel_rfl) (by kernel_rfl) (by kernel_rfl) (fun _ _ _ h => h) (by rfl) (fun w' hS => by clear hS; go_simp) hS ?_
  simp only [Act.put, List.setIfInBounds_toArray, List.set_cons_zero, List.set_cons_succ]
  refine takeY (i := 38) (some 46) (v := .bool true) rfl rfl (by kernel_rfl) (by kernel_rfl) (by kernel_rfl) (fun _ _ _ h => h) (by rfl) (fun w' hS => by clear hS; go_simp) hS ?_
  simp only [Act.put, List.setIfInBounds_toArray, List.set_cons_zero, List.set_cons_succ]
  refine takeY (i := 39) (some 47) (v := .pointer none) rfl rfl (by kernel_rfl) (by kernel_rfl) (by kernel_rfl) (fun _ _ _ h => h) (by rfl) (fun w' hS => by clear hS; go_simp) hS ?_
  simp only [Act.put, List.setIfInBounds_toArray, List.set_cons_zero, List.set_cons_succ]
  refine takeC (i := 40) (some 48) 19 #[.pointer none] (.int .i64 0) (R := fun w' => W9 = w') rfl rfl (by kernel_rfl) (by rfl) (by go_simp) (HLN.out _) (fun w' hb => hb ▸ hS) (fun W11 hb1 hS2 => ?_)
  subst hb1
  clear hS2
  simp only [Act.put, List.setIfInBounds_toArray, List.set_cons_zero, List.set_cons_succ]
  refine takeY (i := 41) (some 49) (v := .bool true) rfl rfl (by kernel_rfl) (by kernel_rfl) (by kernel_rfl) (fun _ _ _ h => h) (by rfl) (fun w' hS => by clear hS; go_simp) hS ?_
  simp only [Act.put, List.setIfInBounds_toArray, List.set_cons_zero, List.set_cons_succ]
  refine takeY (i := 42) (some 50) (v := .bool true) rfl rfl (by kernel_rfl) (by kernel_rfl) (by kernel_rfl) (fun _ _ _ h => h) (by rfl) (fun w' hS => by clear hS; go_simp) hS ?_
  simp only [Act.put, List.setIfInBounds_toArray, List.set_cons_zero, List.set_cons_succ]
  refine takeY (i := 43) (some 6) (v := .bool true) rfl rfl (by kernel_rfl) (by kernel_rfl) (by kernel_rfl) (fun _ _ _ h => h) (by rfl) (fun w' hS => by clear hS; go_simp) hS ?_
  simp only [Act.put, List.setIfInBounds_toArray, List.set_cons_zero, List.set_cons_succ]
  clear hS
  refine wpAnyH_done (by kernel_rfl) ?_ _
  go_wp2
  first | exact ⟨.bool true, by simp [results, Try.f4, go_sem], rfl, HB.out⟩ | exact bodyPost_ret (v := .bool true) (by simp [results, Try.f4, go_sem]) rfl ⟨rfl, HB.out⟩
end Go.Proofs.Ytadmiadallflfaa
