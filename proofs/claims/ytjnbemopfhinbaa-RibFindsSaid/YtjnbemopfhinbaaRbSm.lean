/- Routes that are alike are found alike. Each theorem states its conditions. -/
import Derived.Test.YtjnbemopfhinbaaRbC
import Derived.Test.YtjnbemopfhinbaaAHand
namespace Go.Proofs.Ytjnbemopfhinbaa
open Go.RowKit
set_option linter.unusedVariables false
set_option linter.unusedSimpArgs false

/-- what is known of a route's values -/
structure RtB (r : Rt) : Prop where
  p : Bytes r.p.z
  h : ∀ j i, 0 ≤ (r.h j).y i ∧ (r.h j).y i ≤ 255
theorem self_hop (h : Hp) (hb : ∀ i, 0 ≤ h.y i ∧ h.y i ≤ 255) : SelfEq 10000 74 (.agg (hopC h)) := by
  refine self_struct 9999 _ _ [(3, 0), (72, 1)] (by kernel_rfl) (by kernel_rfl) (by kernel_rfl) (fun p hp => ?_)
  simp only [List.mem_cons, List.not_mem_nil, or_false] at hp
  rcases hp with rfl | rfl
  · exact ⟨.int .i64 h.c, fun w => by kernel_rfl, self_int 9998 _ .i64 _ Try.underlying3⟩
  · exact ⟨.agg (vals h.y 6).toArray, fun w => by kernel_rfl, self_bytes 9997 6 _ h.y hb Try.underlying72⟩
theorem guard_hop : Try.prog.eqGuardType Try.prog.depth 74 = false := by kernel_rfl
theorem index_h (o : Oper) (e : Operand → Value) (x y : Operand) (ho : o.op = .indexAddr 68 x y) (b off m c f : Nat) (h0 : e x = .slice (some ⟨b, off, none⟩) m c) (h1 : e y = .int .i64 (f : Int)) (hf : f < m) (W : World) : (execOp e o).run Try.prog W = .ok (.value (.pointer (some ⟨b, off + f * 7, none⟩))) W := by
  have h2 : (0 : Int) ≤ (f : Int) := Int.natCast_nonneg _
  have h3 : (f : Int) < (m : Int) := by omega
  unfold execOp
  simp only [ho, h0, h1]
  simp [go_sem, h2, h3]
theorem index_r (o : Oper) (e : Operand → Value) (x y : Operand) (ho : o.op = .indexAddr 60 x y) (b off m c f : Nat) (h0 : e x = .slice (some ⟨b, off, none⟩) m c) (h1 : e y = .int .i64 (f : Int)) (hf : f < m) (W : World) : (execOp e o).run Try.prog W = .ok (.value (.pointer (some ⟨b, off + f * 21, none⟩))) W := by
  have h2 : (0 : Int) ≤ (f : Int) := Int.natCast_nonneg _
  have h3 : (f : Int) < (m : Int) := by omega
  unfold execOp
  simp only [ho, h0, h1]
  simp [go_sem, h2, h3]
set_option maxHeartbeats 16000000 in
set_option maxRecDepth 100000 in
theorem sameRoute_any (r : Rt) (A1 A2 : Option Addr) (c1 c2 : Nat) (hb : RtB r) (w : World) (h1 : HopAt w ⟨r, A1, c1⟩) (h2 : HopAt w ⟨r, A2, c2⟩) : Calls Try.prog 35 #[.agg (rxC ⟨r, A1, c1⟩), .agg (rxC ⟨r, A2, c2⟩)] w fun e w' => e = .returned (.bool true) ∧ Below w.heap.size w w' := by
  have H1 := Lib.hid h1
  have H2 := Lib.hid h2
  have HB0 := Lib.hid hb
  clear h1 h2 hb
  go_enter Try.func35, Try.ntmps35
  have HB := Lib.hid (Below.refl w.heap.size w)
  obtain ⟨N1, hN1⟩ : ∃ N, w.heap.size = N := ⟨_, rfl⟩
  have HN1 := Lib.hid hN1
  clear hN1
  go_wp2_with (refine wpList_box (op := ⟨some 2, _, _, _, _, _⟩) rfl 70 (.tmp 0) rfl (rxC ⟨r, A1, c1⟩) rfl N1 HN1.out ?_; intro w1 k1 b1 s1; refine Hid.out ?_)
  refine Lib.hid ?_
  have K2 := Lib.hid k1
  clear k1
  have le_HB_N1 : w.heap.size ≤ N1 := by rw [← HN1.out]; exact HB.out.size
  have HBn := Lib.hid (HB.out.trans (b1.mono HB.out.size))
  clear HB
  have HB := HBn
  clear HBn
  clear b1 HN1
  obtain ⟨N2, hN2⟩ : ∃ N, w1.heap.size = N := ⟨_, rfl⟩
  have HN2 := Lib.hid hN2
  clear hN2
  go_wp2_with (refine wpList_box (op := ⟨some 3, _, _, _, _, _⟩) rfl 70 (.tmp 1) rfl (rxC ⟨r, A2, c2⟩) rfl N2 HN2.out ?_; intro w2 k1 b1 s1; refine Hid.out ?_)
  refine Lib.hid ?_
  have K3 := Lib.hid k1
  clear k1
  have lt_N1_N2 : N1 < N2 := by rw [← HN2.out]; exact K2.out.lt
  have le_HB_N2 : w.heap.size ≤ N2 := by rw [← HN2.out]; exact HB.out.size
  have K2n := Lib.hid (K2.out.below b1 K2.out.lt)
  clear K2
  have K2 := K2n
  clear K2n
  have HBn := Lib.hid (HB.out.trans (b1.mono HB.out.size))
  clear HB
  have HB := HBn
  clear HBn
  clear b1 HN2
  have d0a : w2.cell? ⟨N1, 18, none⟩ = some (.int .i64 r.k) := (K2.out.cell 18).trans rfl
  have d0b : w2.cell? ⟨N1, 19, none⟩ = some (.int .u32 r.m) := (K2.out.cell 19).trans rfl
  have d0c : w2.cell? ⟨N1, 20, none⟩ = some (.slice A1 r.n c1) := (K2.out.cell 20).trans rfl
  have d1a : w2.cell? ⟨N2, 18, none⟩ = some (.int .i64 r.k) := (K3.out.cell 18).trans rfl
  have d1b : w2.cell? ⟨N2, 19, none⟩ = some (.int .u32 r.m) := (K3.out.cell 19).trans rfl
  have d1c : w2.cell? ⟨N2, 20, none⟩ = some (.slice A2 r.n c2) := (K3.out.cell 20).trans rfl
  go_wp2_with (refine wpList_ld (op := ⟨some 7, _, _, _, _, _⟩) (by rfl) 32 (.tmp 6) rfl N1 0 rfl (pfC r.p) _ K2.out.rxpf Try.underlying32 rfl (hi_pv _ _ _) ?_; refine Hid.out ?_)
  refine Lib.hid ?_
  go_wp2_with (refine wpList_ld (op := ⟨some 9, _, _, _, _, _⟩) (by rfl) 32 (.tmp 8) rfl N2 0 rfl (pfC r.p) _ K3.out.rxpf Try.underlying32 rfl (hi_pv _ _ _) ?_; refine Hid.out ?_)
  refine Lib.hid ?_
  go_wp2_with (refine wpList_v (op := ⟨some 10, _, _, _, _, _⟩) rfl (.bool false) (neq_is false (by simp [Same16]) _ _ _ _ rfl HB0.out.p HB0.out.p rfl rfl _) ?_; refine Hid.out ?_)
  refine Lib.hid ?_
  go_wp2_with fail
  obtain ⟨n, hn⟩ : ∃ n, r.n = n := ⟨_, rfl⟩
  have HN := Lib.hid hn
  have hnI : (n : Int) ≤ 9223372036854775807 := by have h9 : r.n ≤ 8796093021952 := H1.out.le; omega
  rw [hn]
  clear d0a d0b d1a d1b d0c d1c
  have HR1 : Hid (RdR w A1 n 7 (fun j => hopC (r.h j))) := Lib.hid (by rw [← hn]; exact H1.out.rd)
  have HR2 : Hid (RdR w A2 n 7 (fun j => hopC (r.h j))) := Lib.hid (by rw [← hn]; exact H2.out.rd)
  clear hn
  go_loopw [37] (fun t wr => ∃ j : Nat, j ≤ n ∧ t = .int .i64 j ∧ Hid (Blk 70 wr N1 (rtC r.p r.k r.m (.slice A1 n c1))) ∧ Hid (Blk 70 wr N2 (rtC r.p r.k r.m (.slice A2 n c2))) ∧ Hid (Below w.heap.size w wr)) (fun t _ => n - (intOf t).toNat)
  case atStart => exact ⟨0, by omega, rfl, Lib.hid (by have h9 := K2.out; unfold rxC at h9; simp only [HN.out] at h9; exact h9), Lib.hid (by have h9 := K3.out; unfold rxC at h9; simp only [HN.out] at h9; exact h9), HB⟩
  case round =>
    obtain ⟨j, hj, rfl, k2, k3, hb⟩ := hrel
    clear K2 K3 HB
    have K2 := k2
    have K3 := k3
    have HB := hb
    clear k2 k3 hb
    by_cases hlt : j < n
    · have hki : (j : Int) < (n : Int) := by omega
      have HLT := Lib.hid hlt
      have hj0 : (0 : Int) ≤ (j : Int) := by omega
      obtain ⟨b1, o1, rfl, r1⟩ := HR1.out.row (by omega)
      obtain ⟨b2, o2, rfl, r2⟩ := HR2.out.row (by omega)
      have R1 := Lib.hid r1
      have R2 := Lib.hid r2
      clear r1 r2 hlt hj
      go_wp2_with fail
      refine wp_region_held_drew (S := fun w' => Blk 70 w' N1 (rtC r.p r.k r.m (.slice (some ⟨b1, o1, none⟩) n c1)) ∧ Blk 70 w' N2 (rtC r.p r.k r.m (.slice (some ⟨b2, o2, none⟩) n c2)) ∧ Below w.heap.size w w') (by kernel_rfl) ⟨K2.out, K3.out, HB.out.drew⟩ (fun hS => ?_)
      generalize hW61 : wr.drew = W61 at hS  ⊢
      clear hW61
      clear K2
      clear K3
      clear HB
      have K2 := Lib.hid hS.1
      have K3 := Lib.hid hS.2.1
      have HB := Lib.hid hS.2.2
      refine takeY (i := 0) (some 40) (v := .pointer (some ⟨N1, 20, none⟩)) rfl rfl (by kernel_rfl) (by kernel_rfl) (by kernel_rfl) (fun _ _ _ h => h) (by rfl) (fun w' hS => by clear hS; go_simp) hS ?_
      simp only [Act.put, List.setIfInBounds_toArray, List.set_cons_zero, List.set_cons_succ]
      refine takeY (i := 1) (some 41) (v := .slice (some ⟨b1, o1, none⟩) n c1) rfl rfl (by kernel_rfl) (by kernel_rfl) (by kernel_rfl) (fun _ _ _ h => h) (by rfl) (fun w' hS => by (have c9 : w'.cell? ⟨N1, 20, none⟩ = some (.slice (some ⟨b1, o1, none⟩) n c1) := (hS.1.cell 20).trans rfl; clear hS; go_simp)) hS ?_
      simp only [Act.put, List.setIfInBounds_toArray, List.set_cons_zero, List.set_cons_succ]
      refine takeY (i := 2) (some 42) (v := .int .i64 (j : Int)) rfl rfl (by kernel_rfl) (by kernel_rfl) (by kernel_rfl) (fun _ _ _ h => h) (by rfl) (fun w' hS => by clear hS; go_simp) hS ?_
      simp only [Act.put, List.setIfInBounds_toArray, List.set_cons_zero, List.set_cons_succ]
      refine takeY (i := 3) (some 43) (v := .pointer (some ⟨b1, o1 + j * 7, none⟩)) rfl rfl (by kernel_rfl) (by kernel_rfl) (by kernel_rfl) (fun _ _ _ h => h) (by rfl) (fun w' hS => by clear hS; exact index_h _ _ _ _ rfl b1 o1 n c1 j rfl rfl HLT.out _) hS ?_
      simp only [Act.put, List.setIfInBounds_toArray, List.set_cons_zero, List.set_cons_succ]
      refine takeL (i := 4) (some 44) 74 (.tmp 43) b1 (o1 + j * 7) (hopC (r.h j)) _ rfl rfl (by kernel_rfl) (by kernel_rfl) (by kernel_rfl) (fun _ _ _ h => h) (by rfl) rfl rfl (fun w' hS => rangeAt_below (R1.out.2 j HLT.out) hS.2.2 R1.out.1) Try.underlying74 rfl info_hop hS ?_
      simp only [Act.put, List.setIfInBounds_toArray, List.set_cons_zero, List.set_cons_succ]
      refine takeY (i := 5) (some 45) (v := .pointer (some ⟨N2, 20, none⟩)) rfl rfl (by kernel_rfl) (by kernel_rfl) (by kernel_rfl) (fun _ _ _ h => h) (by rfl) (fun w' hS => by clear hS; go_simp) hS ?_
      simp only [Act.put, List.setIfInBounds_toArray, List.set_cons_zero, List.set_cons_succ]
      refine takeY (i := 6) (some 46) (v := .slice (some ⟨b2, o2, none⟩) n c2) rfl rfl (by kernel_rfl) (by kernel_rfl) (by kernel_rfl) (fun _ _ _ h => h) (by rfl) (fun w' hS => by (have c9 : w'.cell? ⟨N2, 20, none⟩ = some (.slice (some ⟨b2, o2, none⟩) n c2) := (hS.2.1.cell 20).trans rfl; clear hS; go_simp)) hS ?_
      simp only [Act.put, List.setIfInBounds_toArray, List.set_cons_zero, List.set_cons_succ]
      refine takeY (i := 7) (some 47) (v := .int .i64 (j : Int)) rfl rfl (by kernel_rfl) (by kernel_rfl) (by kernel_rfl) (fun _ _ _ h => h) (by rfl) (fun w' hS => by clear hS; go_simp) hS ?_
      simp only [Act.put, List.setIfInBounds_toArray, List.set_cons_zero, List.set_cons_succ]
      refine takeY (i := 8) (some 48) (v := .pointer (some ⟨b2, o2 + j * 7, none⟩)) rfl rfl (by kernel_rfl) (by kernel_rfl) (by kernel_rfl) (fun _ _ _ h => h) (by rfl) (fun w' hS => by clear hS; exact index_h _ _ _ _ rfl b2 o2 n c2 j rfl rfl HLT.out _) hS ?_
      simp only [Act.put, List.setIfInBounds_toArray, List.set_cons_zero, List.set_cons_succ]
      refine takeL (i := 9) (some 49) 74 (.tmp 48) b2 (o2 + j * 7) (hopC (r.h j)) _ rfl rfl (by kernel_rfl) (by kernel_rfl) (by kernel_rfl) (fun _ _ _ h => h) (by rfl) rfl rfl (fun w' hS => rangeAt_below (R2.out.2 j HLT.out) hS.2.2 R2.out.1) Try.underlying74 rfl info_hop hS ?_
      simp only [Act.put, List.setIfInBounds_toArray, List.set_cons_zero, List.set_cons_succ]
      refine takeY (i := 10) (some 50) (v := .bool false) rfl rfl (by kernel_rfl) (by kernel_rfl) (by kernel_rfl) (fun _ _ _ h => h) (by rfl) (fun w' hS => by clear hS; exact neq_self _ _ _ _ _ _ rfl rfl guard_hop (hopC (r.h j)) (self_hop (r.h j) (HB0.out.h j)) rfl rfl _) hS ?_
      simp only [Act.put, List.setIfInBounds_toArray, List.set_cons_zero, List.set_cons_succ]
      clear hS
      refine wpAnyH_done (by kernel_rfl) ?_ _
      go_wp2_with fail
      go_roundw
      case rel => exact ⟨j + 1, HLT.out, by go_num, K2, K3, HB⟩
      case measure => have := HLT.out; simp only [intOf]; omega
    · obtain rfl : n = j := by omega
      go_wp2_with fail
      go_ret
      exact ⟨rfl, HB.out⟩
set_option maxHeartbeats 16000000 in
set_option maxRecDepth 100000 in
theorem same_any (X Y : Nat → Rx) (A1 A2 : Option Addr) (n c1 c2 : Nat) (w : World) (h1 : RdR w A1 n 21 (fun j => rxC (X j))) (h2 : RdR w A2 n 21 (fun j => rxC (Y j))) (hs : ∀ j, j < n → (X j).r = (Y j).r) (hb : ∀ j, j < n → RtB (X j).r) (hx : ∀ j, j < n → HopAt w (X j)) (hy : ∀ j, j < n → HopAt w (Y j)) (hn : n ≤ 1000) :
    Calls Try.prog 33 #[.slice A1 n c1, .slice A2 n c2] w fun e w' => e = .returned (.bool true) ∧ Below w.heap.size w w' := by
  have H1 := Lib.hid h1
  have H2 := Lib.hid h2
  have HSR := Lib.hid (fun j (hj : j < n) W (hW : Below w.heap.size w W) => (show Calls Try.prog 35 #[.agg (rxC (X j)), .agg (rxC (Y j))] W _ from by
    have e : Y j = ⟨(X j).r, (Y j).A, (Y j).c⟩ := by rw [hs j hj]
    have h9 := sameRoute_any (X j).r (X j).A (Y j).A (X j).c (Y j).c (hb j hj) W ((hx j hj).below hW) (by rw [← e]; exact (hy j hj).below hW)
    rw [← e] at h9
    exact h9))
  have hnI : (n : Int) ≤ 9223372036854775807 := by omega
  clear h1 h2 hs hb hx hy hn
  go_enter Try.func33, Try.ntmps33
  go_wp2_with fail
  go_loopw [13] (fun t wr => ∃ j : Nat, j ≤ n ∧ t = .int .i64 j ∧ Hid (Below w.heap.size w wr)) (fun t _ => n - (intOf t).toNat)
  case atStart => exact ⟨0, by omega, rfl, Lib.hid (Below.refl _ _)⟩
  case round =>
    obtain ⟨j, hj, rfl, HB⟩ := hrel
    by_cases hlt : j < n
    · have hki : (j : Int) < (n : Int) := by omega
      have HLT := Lib.hid hlt
      have hj0 : (0 : Int) ≤ (j : Int) := by omega
      obtain ⟨b1, o1, rfl, r1⟩ := H1.out.row (by omega)
      obtain ⟨b2, o2, rfl, r2⟩ := H2.out.row (by omega)
      have R1 := Lib.hid r1
      have R2 := Lib.hid r2
      clear r1 r2 hlt hj
      go_wp2_with fail
      refine wp_region_held_drew (S := fun w' => Below w.heap.size w w') (by kernel_rfl) HB.out.drew (fun hS => ?_)
      generalize hW61 : wr.drew = W61 at hS  ⊢
      clear hW61
      clear HB
      have HB := Lib.hid hS
      refine takeY (i := 0) (some 16) (v := .slice (some ⟨b1, o1, none⟩) n c1) rfl rfl (by kernel_rfl) (by kernel_rfl) (by kernel_rfl) (fun _ _ _ h => h) (by rfl) (fun w' hS => by clear hS; go_simp) hS ?_
      simp only [Act.put, List.setIfInBounds_toArray, List.set_cons_zero, List.set_cons_succ]
      refine takeY (i := 1) (some 17) (v := .int .i64 (j : Int)) rfl rfl (by kernel_rfl) (by kernel_rfl) (by kernel_rfl) (fun _ _ _ h => h) (by rfl) (fun w' hS => by clear hS; go_simp) hS ?_
      simp only [Act.put, List.setIfInBounds_toArray, List.set_cons_zero, List.set_cons_succ]
      refine takeY (i := 2) (some 18) (v := .pointer (some ⟨b1, o1 + j * 21, none⟩)) rfl rfl (by kernel_rfl) (by kernel_rfl) (by kernel_rfl) (fun _ _ _ h => h) (by rfl) (fun w' hS => by clear hS; exact index_r _ _ _ _ rfl b1 o1 n c1 j rfl rfl HLT.out _) hS ?_
      simp only [Act.put, List.setIfInBounds_toArray, List.set_cons_zero, List.set_cons_succ]
      refine takeL (i := 3) (some 19) 70 (.tmp 18) b1 (o1 + j * 21) (rxC (X j)) _ rfl rfl (by kernel_rfl) (by kernel_rfl) (by kernel_rfl) (fun _ _ _ h => h) (by rfl) rfl rfl (fun w' hS => rangeAt_below (R1.out.2 j HLT.out) hS R1.out.1) Try.underlying70 rfl info_rt hS ?_
      simp only [Act.put, List.setIfInBounds_toArray, List.set_cons_zero, List.set_cons_succ]
      refine takeY (i := 4) (some 20) (v := .slice (some ⟨b2, o2, none⟩) n c2) rfl rfl (by kernel_rfl) (by kernel_rfl) (by kernel_rfl) (fun _ _ _ h => h) (by rfl) (fun w' hS => by clear hS; go_simp) hS ?_
      simp only [Act.put, List.setIfInBounds_toArray, List.set_cons_zero, List.set_cons_succ]
      refine takeY (i := 5) (some 21) (v := .int .i64 (j : Int)) rfl rfl (by kernel_rfl) (by kernel_rfl) (by kernel_rfl) (fun _ _ _ h => h) (by rfl) (fun w' hS => by clear hS; go_simp) hS ?_
      simp only [Act.put, List.setIfInBounds_toArray, List.set_cons_zero, List.set_cons_succ]
      refine takeY (i := 6) (some 22) (v := .pointer (some ⟨b2, o2 + j * 21, none⟩)) rfl rfl (by kernel_rfl) (by kernel_rfl) (by kernel_rfl) (fun _ _ _ h => h) (by rfl) (fun w' hS => by clear hS; exact index_r _ _ _ _ rfl b2 o2 n c2 j rfl rfl HLT.out _) hS ?_
      simp only [Act.put, List.setIfInBounds_toArray, List.set_cons_zero, List.set_cons_succ]
      refine takeL (i := 7) (some 23) 70 (.tmp 22) b2 (o2 + j * 21) (rxC (Y j)) _ rfl rfl (by kernel_rfl) (by kernel_rfl) (by kernel_rfl) (fun _ _ _ h => h) (by rfl) rfl rfl (fun w' hS => rangeAt_below (R2.out.2 j HLT.out) hS R2.out.1) Try.underlying70 rfl info_rt hS ?_
      simp only [Act.put, List.setIfInBounds_toArray, List.set_cons_zero, List.set_cons_succ]
      refine takeC (i := 8) (some 24) 35 #[.agg (rxC (X j)), .agg (rxC (Y j))] (.bool true) (R := fun w' => Below W61.heap.size W61 w') rfl rfl (by kernel_rfl) (by rfl) (by go_simp) (HSR.out j HLT.out W61 HB.out) (fun w' hb => hS.trans (hb.mono hS.size)) (fun W62 hb1 hS2 => ?_)
      simp only [Act.put, List.setIfInBounds_toArray, List.set_cons_zero, List.set_cons_succ]
      clear HB
      clear hS hb1
      have hS := hS2
      clear hS2
      have HB := Lib.hid hS
      refine takeY (i := 9) (some 25) (v := .bool false) rfl rfl (by kernel_rfl) (by kernel_rfl) (by kernel_rfl) (fun _ _ _ h => h) (by rfl) (fun w' hS => by clear hS; go_simp) hS ?_
      simp only [Act.put, List.setIfInBounds_toArray, List.set_cons_zero, List.set_cons_succ]
      clear hS
      refine wpAnyH_done (by kernel_rfl) ?_ _
      go_wp2_with fail
      go_roundw
      case rel => exact ⟨j + 1, HLT.out, by go_num, HB⟩
      case measure => have := HLT.out; simp only [intOf]; omega
    · obtain rfl : n = j := by omega
      go_wp2_with fail
      go_ret
      exact ⟨rfl, HB.out⟩
end Go.Proofs.Ytjnbemopfhinbaa
