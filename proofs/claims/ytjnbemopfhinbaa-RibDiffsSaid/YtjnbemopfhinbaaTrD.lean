/- without of the program's trie. Each theorem states its conditions. -/
import Derived.Test.YtjnbemopfhinbaaTrA
namespace Go.Proofs.Ytjnbemopfhinbaa
open Go.RowKit
set_option linter.unusedVariables false
set_option linter.unusedSimpArgs false

/-- what becomes of a node that may stand for nothing any more -/
def shr (g n : Nat) (z : Nat → Int) : Option Int → Ht → Ht → Ht
  | some v, l, r => .nd g n z (some v) l r
  | none, .nil, r => r
  | none, l, .nil => l
  | none, l, r => .nd g n z none l r
set_option maxHeartbeats 16000000 in
set_option maxRecDepth 100000 in
theorem without_same (g0 : Nat) (fam : Int) (n n' : Nat) (z z' : Nat → Int) (h : Option Int) (l r : Ht) (hz : Bytes z) (hz' : Bytes z') (he : (n' : Int) = (n : Int) ∧ Same16 z' z) (w : World) (hk : Blk 106 w g0 (ndC fam n' z' h.isSome (h.getD 0) l.root r.root)) :
    Calls Try.prog 48 #[.pointer (some ⟨g0, 0, none⟩), .agg (pvC fam n z)] w fun e w' => e = .returned (shr g0 n' z' none l r).root ∧ Blk 106 w' g0 (ndC fam n' z' false 0 l.root r.root) ∧ Kp [g0] w w' := by
  have HZ := Lib.hid hz
  have HZ' := Lib.hid hz'
  have HE : Hid (∀ f, f = fam → decide (f = fam ∧ (n' : Int) = (n : Int) ∧ Same16 z' z) = true) := Lib.hid (fun f hf => decide_eq_true ⟨hf, he⟩)
  have KN := Lib.hid hk
  clear hz hz' he hk
  go_enter Try.func48, Try.ntmps48
  have HK := Lib.hid (Kp.refl ([g0]) w)
  obtain ⟨N1, hN1⟩ : ∃ N, w.heap.size = N := ⟨_, rfl⟩
  have HN1 := Lib.hid hN1
  clear hN1
  go_wp2_with (refine wpList_box (op := ⟨some 3, _, _, _, _, _⟩) rfl 32 (.tmp 1) rfl (pvC fam n z) rfl N1 HN1.out ?_; intro w1 k1 b1 s1; refine Hid.out ?_)
  refine Lib.hid ?_
  have le_HK_N1 : w.heap.size ≤ N1 := by rw [← HN1.out]; exact HK.out.size
  have K3 := Lib.hid k1
  clear k1
  have lt_g0_N1 : g0 < N1 := by rw [← HN1.out]; exact KN.out.lt
  have KNn := Lib.hid (KN.out.below b1 KN.out.lt)
  clear KN
  have KN := KNn
  clear KNn
  have HKn := Lib.hid (HK.out.tb b1)
  clear HK
  have HK := HKn
  clear HKn
  clear b1 HN1
  go_wp2_with fail
  refine wp_region_held_drew (S := fun w' => Blk 106 w' g0 (ndC fam n' z' h.isSome (h.getD 0) l.root r.root) ∧ Blk 32 w' N1 (pvC fam n z) ∧ Kp ([g0]) w w') (by kernel_rfl) ⟨KN.out, K3.out, HK.out.drew⟩ (fun hS => ?_)
  generalize hW2 : w1.drew = W2 at hS  ⊢
  clear hW2
  clear KN
  clear K3
  clear HK
  have KN := Lib.hid hS.1
  have K3 := Lib.hid hS.2.1
  have HK := Lib.hid hS.2.2
  refine takeY (i := 0) (some 6) (v := .pointer (some ⟨g0, 0, none⟩)) rfl rfl (by kernel_rfl) (by kernel_rfl) (by kernel_rfl) (fun _ _ _ h => h) (by rfl) (fun w' hS => by clear hS; go_simp) hS ?_
  simp only [Act.put, List.setIfInBounds_toArray, List.set_cons_zero, List.set_cons_succ]
  refine takeY (i := 1) (some 7) (v := .pointer (some ⟨g0, 0, none⟩)) rfl rfl (by kernel_rfl) (by kernel_rfl) (by kernel_rfl) (fun _ _ _ h => h) (by rfl) (fun w' hS => by clear hS; go_simp) hS ?_
  simp only [Act.put, List.setIfInBounds_toArray, List.set_cons_zero, List.set_cons_succ]
  refine takeY (i := 2) (some 8) (v := .pointer (some ⟨g0, 0, none⟩)) rfl rfl (by kernel_rfl) (by kernel_rfl) (by kernel_rfl) (fun _ _ _ h => h) (by rfl) (fun w' hS => by clear hS; go_simp) hS ?_
  simp only [Act.put, List.setIfInBounds_toArray, List.set_cons_zero, List.set_cons_succ]
  refine takeL (i := 3) (some 9) 32 (.tmp 8) g0 0 (pvC fam n' z') _ rfl rfl (by kernel_rfl) (by kernel_rfl) (by kernel_rfl) (fun _ _ _ h => h) (by rfl) rfl rfl (fun w' hS => hS.1.ndpv) Try.underlying32 rfl (hi_pv fam (n' : Int) z') hS ?_
  simp only [Act.put, List.setIfInBounds_toArray, List.set_cons_zero, List.set_cons_succ]
  refine takeL (i := 4) (some 10) 32 (.tmp 3) N1 0 (pvC fam n z) _ rfl rfl (by kernel_rfl) (by kernel_rfl) (by kernel_rfl) (fun _ _ _ h => h) (by rfl) rfl rfl (fun w' hS => hS.2.1.all) Try.underlying32 rfl (hi_pv fam (n : Int) z) hS ?_
  simp only [Act.put, List.setIfInBounds_toArray, List.set_cons_zero, List.set_cons_succ]
  refine takeY (i := 5) (some 11) (v := .bool true) rfl rfl (by kernel_rfl) (by kernel_rfl) (by kernel_rfl) (fun _ _ _ h => h) (by rfl) (fun w' hS => by refine (eql_pv _ _ _ _ rfl fam (n' : Int) z' fam (n : Int) z HZ'.out HZ.out rfl rfl _).trans ?_; rw [HE.out fam rfl]) hS ?_
  simp only [Act.put, List.setIfInBounds_toArray, List.set_cons_zero, List.set_cons_succ]
  clear hS
  refine wpAnyH_done (by kernel_rfl) ?_ _
  go_wp2_with (refine wpList_st rfl 4 (.tmp 15) (.const (.bool false)) rfl g0 18 rfl (.bool false) (#[.bool false]) rfl rfl info_b1 (one_bool' _) KN.out (Nat.le_of_ble_eq_true rfl) (C' := ndC fam n' z' false (h.getD 0) l.root r.root) (nd_put18 _ _ _ _ _ _ _ _) ?_; intro w40 q1; refine Hid.out ?_)
  refine Lib.hid ?_
  have HKn := Lib.hid (HK.out.st q1 (.inl (by simp)))
  clear HK
  have HK := HKn
  clear HKn
  have K3n := Lib.hid (K3.out.far q1 (by omega))
  clear K3
  have K3 := K3n
  clear K3n
  have KNn : Hid (Blk 106 w40 g0 (ndC fam n' z' false (h.getD 0) l.root r.root)) := Lib.hid q1.1
  clear KN
  have KN := KNn
  clear KNn q1
  go_wp2_with (refine wpList_st rfl 3 (.tmp 17) (.const (.int .i64 0)) rfl g0 19 rfl (.int .i64 0) (#[.int .i64 0]) rfl rfl info_i1 (one_i64 _) KN.out (Nat.le_of_ble_eq_true rfl) (C' := ndC fam n' z' false 0 l.root r.root) (nd_put19 _ _ _ _ _ _ _ _) ?_; intro w41 q1; refine Hid.out ?_)
  refine Lib.hid ?_
  have HKn := Lib.hid (HK.out.st q1 (.inl (by simp)))
  clear HK
  have HK := HKn
  clear HKn
  have K3n := Lib.hid (K3.out.far q1 (by omega))
  clear K3
  have K3 := K3n
  clear K3n
  have KNn : Hid (Blk 106 w41 g0 (ndC fam n' z' false 0 l.root r.root)) := Lib.hid q1.1
  clear KN
  have KN := KNn
  clear KNn q1
  cases l with
  | nil =>
    have c18 : w41.cell? ⟨g0, 18, none⟩ = some (.bool false) := (KN.out.cell 18).trans rfl
    have c20 : w41.cell? ⟨g0, 20, none⟩ = some (.pointer none) := (KN.out.cell 20).trans rfl
    go_wp2_with (refine wpList_v (op := ⟨some 51, _, _, _, _, _⟩) rfl (r).root (load_ptr _ _ _ rfl g0 21 rfl r ((KN.out.cell 21).trans rfl)) ?_; refine Hid.out ?_)
    refine Lib.hid ?_
    go_wp2_with fail
    refine bodyPost_ret (v := (r).root) (by simp [results, Try.f48, go_sem]) rfl ?_
    exact ⟨rfl, KN.out, HK.out⟩
  | nd g1 n1 z1 v1 l1 r1 =>
    cases r with
    | nil =>
      have c18 : w41.cell? ⟨g0, 18, none⟩ = some (.bool false) := (KN.out.cell 18).trans rfl
      have c20 : w41.cell? ⟨g0, 20, none⟩ = some (.pointer (some ⟨g1, 0, none⟩)) := (KN.out.cell 20).trans rfl
      have c21 : w41.cell? ⟨g0, 21, none⟩ = some (.pointer none) := (KN.out.cell 21).trans rfl
      go_wp2_with fail
      refine bodyPost_ret (v := .pointer (some ⟨g1, 0, none⟩)) (by simp [results, Try.f48, go_sem]) rfl ?_
      exact ⟨rfl, KN.out, HK.out⟩
    | nd g2 n2 z2 v2 l2 r2 =>
      have c18 : w41.cell? ⟨g0, 18, none⟩ = some (.bool false) := (KN.out.cell 18).trans rfl
      have c20 : w41.cell? ⟨g0, 20, none⟩ = some (.pointer (some ⟨g1, 0, none⟩)) := (KN.out.cell 20).trans rfl
      have c21 : w41.cell? ⟨g0, 21, none⟩ = some (.pointer (some ⟨g2, 0, none⟩)) := (KN.out.cell 21).trans rfl
      go_wp2_with fail
      refine bodyPost_ret (v := .pointer (some ⟨g0, 0, none⟩)) (by simp [results, Try.f48, go_sem]) rfl ?_
      exact ⟨rfl, KN.out, HK.out⟩
set_option maxHeartbeats 16000000 in
set_option maxRecDepth 100000 in
theorem without_side0 (g0 : Nat) (fam : Int) (n n' : Nat) (z z' : Nat → Int) (h : Option Int) (l r : Ht) (hz : Bytes z) (hz' : Bytes z') (hn : n ≤ 128) (he : ¬ ((n' : Int) = (n : Int) ∧ Same16 z' z)) (hlt : n' < n) (hsd : Tr.side (btP n z) n' = false) (T : Tr) (hrec : ∀ W, l.At W fam → Calls Try.prog 48 #[l.root, .agg (pvC fam n z)] W (TreeP fam l.fp T W)) (w : World) (hk : Blk 106 w g0 (ndC fam n' z' h.isSome (h.getD 0) l.root r.root)) (hl : l.At w fam) (hg : g0 ∉ l.fp) :
    Calls Try.prog 48 #[.pointer (some ⟨g0, 0, none⟩), .agg (pvC fam n z)] w fun e w' => ∃ t2 : Ht, e = .returned (shr g0 n' z' h t2 r).root ∧ Blk 106 w' g0 (ndC fam n' z' h.isSome (h.getD 0) t2.root r.root) ∧ t2.At w' fam ∧ t2.bits = T ∧ Kp (g0 :: l.fp) w w' ∧ (∀ k, k ∈ t2.fp → k ∈ l.fp ∨ w.heap.size ≤ k) ∧ t2.fp.Nodup ∧ g0 ∉ t2.fp := by
  have HZ := Lib.hid hz
  have HZ' := Lib.hid hz'
  have HE : Hid (∀ f, f = fam → decide (f = fam ∧ (n' : Int) = (n : Int) ∧ Same16 z' z) = false) := Lib.hid (fun f hf => decide_eq_false fun h => he h.2)
  have HSD := Lib.hid (fun W hk => side_nd g0 fam fam (h.getD 0) n' n z' z h.isSome l.root r.root hz hlt hn W hk)
  rw [hsd] at HSD
  have HREC := Lib.hid hrec
  have HLT := Lib.hid hl.lt
  have HL := Lib.hid hl
  have HG := Lib.hid hg
  have KN := Lib.hid hk
  have HG0 := Lib.hid hk.lt
  clear hz hz' he hk hsd hrec hn hlt hl hg
  go_enter Try.func48, Try.ntmps48
  have HK := Lib.hid (Kp.refl (g0 :: l.fp) w)
  obtain ⟨N1, hN1⟩ : ∃ N, w.heap.size = N := ⟨_, rfl⟩
  have HN1 := Lib.hid hN1
  clear hN1
  go_wp2_with (refine wpList_box (op := ⟨some 3, _, _, _, _, _⟩) rfl 32 (.tmp 1) rfl (pvC fam n z) rfl N1 HN1.out ?_; intro w1 k1 b1 s1; refine Hid.out ?_)
  refine Lib.hid ?_
  have le_HK_N1 : w.heap.size ≤ N1 := by rw [← HN1.out]; exact HK.out.size
  have K3 := Lib.hid k1
  clear k1
  have lt_g0_N1 : g0 < N1 := by rw [← HN1.out]; exact KN.out.lt
  have KNn := Lib.hid (KN.out.below b1 KN.out.lt)
  clear KN
  have KN := KNn
  clear KNn
  have HLn := Lib.hid (HL.out.below b1 HL.out.lt)
  clear HL
  have HL := HLn
  clear HLn
  have HKn := Lib.hid (HK.out.tb b1)
  clear HK
  have HK := HKn
  clear HKn
  clear b1 HN1
  go_wp2_with fail
  have HLd := Lib.hid HL.out.drew
  clear HL
  refine wp_region_held_drew (S := fun w' => Blk 106 w' g0 (ndC fam n' z' h.isSome (h.getD 0) l.root r.root) ∧ Blk 32 w' N1 (pvC fam n z) ∧ Kp (g0 :: l.fp) w w') (by kernel_rfl) ⟨KN.out, K3.out, HK.out.drew⟩ (fun hS => ?_)
  generalize hW2 : w1.drew = W2 at hS HLd ⊢
  clear hW2
  clear KN
  clear K3
  clear HK
  have HL := HLd
  clear HLd
  have KN := Lib.hid hS.1
  have K3 := Lib.hid hS.2.1
  have HK := Lib.hid hS.2.2
  refine takeY (i := 0) (some 6) (v := .pointer (some ⟨g0, 0, none⟩)) rfl rfl (by kernel_rfl) (by kernel_rfl) (by kernel_rfl) (fun _ _ _ h => h) (by rfl) (fun w' hS => by clear hS; go_simp) hS ?_
  simp only [Act.put, List.setIfInBounds_toArray, List.set_cons_zero, List.set_cons_succ]
  refine takeY (i := 1) (some 7) (v := .pointer (some ⟨g0, 0, none⟩)) rfl rfl (by kernel_rfl) (by kernel_rfl) (by kernel_rfl) (fun _ _ _ h => h) (by rfl) (fun w' hS => by clear hS; go_simp) hS ?_
  simp only [Act.put, List.setIfInBounds_toArray, List.set_cons_zero, List.set_cons_succ]
  refine takeY (i := 2) (some 8) (v := .pointer (some ⟨g0, 0, none⟩)) rfl rfl (by kernel_rfl) (by kernel_rfl) (by kernel_rfl) (fun _ _ _ h => h) (by rfl) (fun w' hS => by clear hS; go_simp) hS ?_
  simp only [Act.put, List.setIfInBounds_toArray, List.set_cons_zero, List.set_cons_succ]
  refine takeL (i := 3) (some 9) 32 (.tmp 8) g0 0 (pvC fam n' z') _ rfl rfl (by kernel_rfl) (by kernel_rfl) (by kernel_rfl) (fun _ _ _ h => h) (by rfl) rfl rfl (fun w' hS => hS.1.ndpv) Try.underlying32 rfl (hi_pv fam (n' : Int) z') hS ?_
  simp only [Act.put, List.setIfInBounds_toArray, List.set_cons_zero, List.set_cons_succ]
  refine takeL (i := 4) (some 10) 32 (.tmp 3) N1 0 (pvC fam n z) _ rfl rfl (by kernel_rfl) (by kernel_rfl) (by kernel_rfl) (fun _ _ _ h => h) (by rfl) rfl rfl (fun w' hS => hS.2.1.all) Try.underlying32 rfl (hi_pv fam (n : Int) z) hS ?_
  simp only [Act.put, List.setIfInBounds_toArray, List.set_cons_zero, List.set_cons_succ]
  refine takeY (i := 5) (some 11) (v := .bool false) rfl rfl (by kernel_rfl) (by kernel_rfl) (by kernel_rfl) (fun _ _ _ h => h) (by rfl) (fun w' hS => by refine (eql_pv _ _ _ _ rfl fam (n' : Int) z' fam (n : Int) z HZ'.out HZ.out rfl rfl _).trans ?_; rw [HE.out fam rfl]) hS ?_
  simp only [Act.put, List.setIfInBounds_toArray, List.set_cons_zero, List.set_cons_succ]
  clear hS
  refine wpAnyH_done (by kernel_rfl) ?_ _
  go_wp2_with (refine wpList_ld (op := ⟨some 19, _, _, _, _, _⟩) (by rfl) 32 (.tmp 3) rfl N1 0 rfl (pvC fam n z) _ K3.out.all Try.underlying32 rfl (hi_pv fam (n : Int) z) ?_; refine Hid.out ?_)
  refine Lib.hid ?_
  go_wp2_with fail
  refine (HSD.out _ KN.out).mono ?_
  rintro e w3 ⟨rfl, b1⟩
  have KNn := Lib.hid (KN.out.below b1 KN.out.lt)
  clear KN
  have KN := KNn
  clear KNn
  have K3n := Lib.hid (K3.out.below b1 K3.out.lt)
  clear K3
  have K3 := K3n
  clear K3n
  have HLn := Lib.hid (HL.out.below b1 HL.out.lt)
  clear HL
  have HL := HLn
  clear HLn
  have HKn := Lib.hid (HK.out.tb b1)
  clear HK
  have HK := HKn
  clear HKn
  clear b1
  go_wp2_with fail
  have HLd := Lib.hid HL.out.drew
  clear HL
  have KNd := Lib.hid KN.out.drew
  clear KN
  refine wp_region_held_drew (S := fun w' => Blk 32 w' N1 (pvC fam n z) ∧ Kp (g0 :: l.fp) w w') (by kernel_rfl) ⟨K3.out, HK.out.drew⟩ (fun hS => ?_)
  generalize hW4 : w3.drew = W4 at hS HLd KNd ⊢
  clear hW4
  clear K3
  clear HK
  have HL := HLd
  clear HLd
  have KN := KNd
  clear KNd
  have K3 := Lib.hid hS.1
  have HK := Lib.hid hS.2
  refine takeY (i := 0) (some 21) (v := .pointer (some ⟨g0, 0, none⟩)) rfl rfl (by kernel_rfl) (by kernel_rfl) (by kernel_rfl) (fun _ _ _ h => h) (by rfl) (fun w' hS => by clear hS; go_simp) hS ?_
  simp only [Act.put, List.setIfInBounds_toArray, List.set_cons_zero, List.set_cons_succ]
  refine takeY (i := 1) (some 22) (v := .int .u8 0) rfl rfl (by kernel_rfl) (by kernel_rfl) (by kernel_rfl) (fun _ _ _ h => h) (by rfl) (fun w' hS => by clear hS; go_simp) hS ?_
  simp only [Act.put, List.setIfInBounds_toArray, List.set_cons_zero, List.set_cons_succ]
  refine takeY (i := 2) (some 23) (v := .pointer (some ⟨g0, 0, none⟩)) rfl rfl (by kernel_rfl) (by kernel_rfl) (by kernel_rfl) (fun _ _ _ h => h) (by rfl) (fun w' hS => by clear hS; go_simp) hS ?_
  simp only [Act.put, List.setIfInBounds_toArray, List.set_cons_zero, List.set_cons_succ]
  refine takeY (i := 3) (some 24) (v := .int .u8 0) rfl rfl (by kernel_rfl) (by kernel_rfl) (by kernel_rfl) (fun _ _ _ h => h) (by rfl) (fun w' hS => by clear hS; go_simp) hS ?_
  simp only [Act.put, List.setIfInBounds_toArray, List.set_cons_zero, List.set_cons_succ]
  refine takeY (i := 4) (some 25) (v := .pointer (some ⟨g0, 0, none⟩)) rfl rfl (by kernel_rfl) (by kernel_rfl) (by kernel_rfl) (fun _ _ _ h => h) (by rfl) (fun w' hS => by clear hS; go_simp) hS ?_
  simp only [Act.put, List.setIfInBounds_toArray, List.set_cons_zero, List.set_cons_succ]
  refine takeY (i := 5) (some 26) (v := .pointer (some ⟨g0, 20, none⟩)) rfl rfl (by kernel_rfl) (by kernel_rfl) (by kernel_rfl) (fun _ _ _ h => h) (by rfl) (fun w' hS => by clear hS; go_simp) hS ?_
  simp only [Act.put, List.setIfInBounds_toArray, List.set_cons_zero, List.set_cons_succ]
  refine takeY (i := 6) (some 27) (v := .pointer (some ⟨g0, 20, none⟩)) rfl rfl (by kernel_rfl) (by kernel_rfl) (by kernel_rfl) (fun _ _ _ h => h) (by rfl) (fun w' hS => by clear hS; go_simp) hS ?_
  simp only [Act.put, List.setIfInBounds_toArray, List.set_cons_zero, List.set_cons_succ]
  refine takeL (i := 8) (some 29) 32 (.tmp 3) N1 0 (pvC fam n z) _ rfl rfl (by kernel_rfl) (by kernel_rfl) (by kernel_rfl) (fun _ _ _ h => h) (by rfl) rfl rfl (fun w' hS => hS.1.all) Try.underlying32 rfl (hi_pv fam (n : Int) z) hS ?_
  simp only [Act.put, List.setIfInBounds_toArray, List.set_cons_zero, List.set_cons_succ]
  refine takeY (i := 10) (some 31) (v := .pointer (some ⟨g0, 0, none⟩)) rfl rfl (by kernel_rfl) (by kernel_rfl) (by kernel_rfl) (fun _ _ _ h => h) (by rfl) (fun w' hS => by clear hS; go_simp) hS ?_
  simp only [Act.put, List.setIfInBounds_toArray, List.set_cons_zero, List.set_cons_succ]
  refine takeY (i := 11) (some 32) (v := .pointer (some ⟨g0, 20, none⟩)) rfl rfl (by kernel_rfl) (by kernel_rfl) (by kernel_rfl) (fun _ _ _ h => h) (by rfl) (fun w' hS => by clear hS; go_simp) hS ?_
  simp only [Act.put, List.setIfInBounds_toArray, List.set_cons_zero, List.set_cons_succ]
  refine takeV (i := 7) (some 28) (v := l.root) (w' := W4) rfl rfl (by kernel_rfl) (by rfl) (load_ptr _ _ _ rfl g0 20 rfl _ ((KN.out.cell 20).trans rfl)) hS ?_
  simp only [Act.put, List.setIfInBounds_toArray, List.set_cons_zero, List.set_cons_succ]
  refine takeCE (i := 9) (some 30) 48 #[l.root, .agg (pvC fam n z)] (R := fun v w' => ∃ t2 : Ht, v = t2.root ∧ t2.At w' fam ∧ t2.bits = T ∧ Kp l.fp W4 w' ∧ (∀ k, k ∈ t2.fp → k ∈ l.fp ∨ W4.heap.size ≤ k) ∧ t2.fp.Nodup) rfl rfl (by kernel_rfl) (by rfl) (by go_simp) ((HREC.out W4 HL.out).mono (by rintro e w9 ⟨t2, rfl, h9⟩; exact ⟨_, rfl, t2, rfl, h9⟩)) (fun v w' h => by obtain ⟨t2, rfl, ha2, hb2, hk2, hi2, hd2⟩ := h; exact ⟨K3.out.kp hk2 (fun h => absurd (HLT.out _ h) (by omega)), HK.out.tr hk2 (fun x hx => .inl (List.mem_cons_of_mem _ hx))⟩) (fun v W5 h hS2 => ?_)
  obtain ⟨t2, rfl, ha2, hb2, hk2, hi2, hd2⟩ := h
  clear hS2
  simp only [Act.put, List.setIfInBounds_toArray, List.set_cons_zero, List.set_cons_succ]
  have HA2 := Lib.hid ha2
  have HB2 := Lib.hid hb2
  have HI2 : Hid (∀ k, k ∈ t2.fp → k ∈ l.fp ∨ w.heap.size ≤ k) := Lib.hid (fun k hk => (hi2 k hk).imp_right (fun h => Nat.le_trans HK.out.size h))
  have HD2 := Lib.hid hd2
  have HG2 : Hid (g0 ∉ t2.fp) := Lib.hid (fun h => (HI2.out g0 h).elim HG.out (fun h9 => absurd HG0.out (by omega)))
  clear ha2 hb2 hi2 hd2
  have KNn := Lib.hid (KN.out.kp hk2 HG.out)
  clear KN
  have KN := KNn
  clear KNn
  have K3n := Lib.hid (K3.out.kp hk2 (fun h => absurd (HLT.out _ h) (by omega)))
  clear K3
  have K3 := K3n
  clear K3n
  have HKn := Lib.hid (HK.out.tr hk2 (fun x hx => .inl (List.mem_cons_of_mem _ hx)))
  clear HK
  have HK := HKn
  clear HKn
  clear hS
  have hS := (And.intro K3.out HK.out)
  refine takeY (i := 12) (some 33) (v := .pointer (some ⟨g0, 20, none⟩)) rfl rfl (by kernel_rfl) (by kernel_rfl) (by kernel_rfl) (fun _ _ _ h => h) (by rfl) (fun w' hS => by clear hS; go_simp) hS ?_
  simp only [Act.put, List.setIfInBounds_toArray, List.set_cons_zero, List.set_cons_succ]
  refine takeSt (i := 13) 87 (.tmp 33) (.tmp 30) g0 20 (t2.root) (#[t2.root]) (ndC fam n' z' h.isSome (h.getD 0) t2.root r.root) rfl rfl (by kernel_rfl) (by rfl) rfl rfl rfl (root_cells _) info_p1 (one_root _) KN.out (Nat.le_of_ble_eq_true rfl) (nd_put20 _ _ _ _ _ _ _ _) ?_
  intro W6 q1
  refine ⟨⟨K3.out.far q1 (by omega), HK.out.st q1 (.inl (List.mem_cons_self ..))⟩, ?_⟩
  simp only [Act.put, List.setIfInBounds_toArray, List.set_cons_zero, List.set_cons_succ]
  have KNn : Hid (Blk 106 W6 g0 (ndC fam n' z' h.isSome (h.getD 0) t2.root r.root)) := Lib.hid q1.1
  clear KN
  have KN := KNn
  clear KNn
  have HA2n := Lib.hid (HA2.out.far q1 HG2.out)
  clear HA2
  have HA2 := HA2n
  clear HA2n
  have K3n := Lib.hid (K3.out.far q1 (by omega))
  clear K3
  have K3 := K3n
  clear K3n
  have HKn := Lib.hid (HK.out.st q1 (.inl (List.mem_cons_self ..)))
  clear HK
  have HK := HKn
  clear HKn
  clear q1 hS
  have hS := (And.intro K3.out HK.out)
  clear hS
  refine wpAnyH_done (by kernel_rfl) ?_ _
  cases h with
  | some x =>
    have c18 : W6.cell? ⟨g0, 18, none⟩ = some (.bool true) := (KN.out.cell 18).trans rfl
    go_wp2_with fail
    refine bodyPost_ret (v := .pointer (some ⟨g0, 0, none⟩)) (by simp [results, Try.f48, go_sem]) rfl ?_
    exact ⟨_, rfl, KN.out, HA2.out, HB2.out, HK.out, HI2.out, HD2.out, HG2.out⟩
  | none =>
    cases t2 with
    | nil =>
      have c18 : W6.cell? ⟨g0, 18, none⟩ = some (.bool false) := (KN.out.cell 18).trans rfl
      have c20 : W6.cell? ⟨g0, 20, none⟩ = some (.pointer none) := (KN.out.cell 20).trans rfl
      go_wp2_with (refine wpList_v (op := ⟨some 51, _, _, _, _, _⟩) rfl (r).root (load_ptr _ _ _ rfl g0 21 rfl r ((KN.out.cell 21).trans rfl)) ?_; refine Hid.out ?_)
      refine Lib.hid ?_
      go_wp2_with fail
      refine bodyPost_ret (v := (r).root) (by simp [results, Try.f48, go_sem]) rfl ?_
      exact ⟨_, rfl, KN.out, HA2.out, HB2.out, HK.out, HI2.out, HD2.out, HG2.out⟩
    | nd g1 n1 z1 v1 l1 r1 =>
      cases r with
      | nil =>
        have c18 : W6.cell? ⟨g0, 18, none⟩ = some (.bool false) := (KN.out.cell 18).trans rfl
        have c20 : W6.cell? ⟨g0, 20, none⟩ = some (.pointer (some ⟨g1, 0, none⟩)) := (KN.out.cell 20).trans rfl
        have c21 : W6.cell? ⟨g0, 21, none⟩ = some (.pointer none) := (KN.out.cell 21).trans rfl
        go_wp2_with fail
        refine bodyPost_ret (v := .pointer (some ⟨g1, 0, none⟩)) (by simp [results, Try.f48, go_sem]) rfl ?_
        exact ⟨_, rfl, KN.out, HA2.out, HB2.out, HK.out, HI2.out, HD2.out, HG2.out⟩
      | nd g2 n2 z2 v2 l2 r2 =>
        have c18 : W6.cell? ⟨g0, 18, none⟩ = some (.bool false) := (KN.out.cell 18).trans rfl
        have c20 : W6.cell? ⟨g0, 20, none⟩ = some (.pointer (some ⟨g1, 0, none⟩)) := (KN.out.cell 20).trans rfl
        have c21 : W6.cell? ⟨g0, 21, none⟩ = some (.pointer (some ⟨g2, 0, none⟩)) := (KN.out.cell 21).trans rfl
        go_wp2_with fail
        refine bodyPost_ret (v := .pointer (some ⟨g0, 0, none⟩)) (by simp [results, Try.f48, go_sem]) rfl ?_
        exact ⟨_, rfl, KN.out, HA2.out, HB2.out, HK.out, HI2.out, HD2.out, HG2.out⟩
set_option maxHeartbeats 16000000 in
set_option maxRecDepth 100000 in
theorem without_side1 (g0 : Nat) (fam : Int) (n n' : Nat) (z z' : Nat → Int) (h : Option Int) (l r : Ht) (hz : Bytes z) (hz' : Bytes z') (hn : n ≤ 128) (he : ¬ ((n' : Int) = (n : Int) ∧ Same16 z' z)) (hlt : n' < n) (hsd : Tr.side (btP n z) n' = true) (T : Tr) (hrec : ∀ W, r.At W fam → Calls Try.prog 48 #[r.root, .agg (pvC fam n z)] W (TreeP fam r.fp T W)) (w : World) (hk : Blk 106 w g0 (ndC fam n' z' h.isSome (h.getD 0) l.root r.root)) (hl : r.At w fam) (hg : g0 ∉ r.fp) :
    Calls Try.prog 48 #[.pointer (some ⟨g0, 0, none⟩), .agg (pvC fam n z)] w fun e w' => ∃ t2 : Ht, e = .returned (shr g0 n' z' h l t2).root ∧ Blk 106 w' g0 (ndC fam n' z' h.isSome (h.getD 0) l.root t2.root) ∧ t2.At w' fam ∧ t2.bits = T ∧ Kp (g0 :: r.fp) w w' ∧ (∀ k, k ∈ t2.fp → k ∈ r.fp ∨ w.heap.size ≤ k) ∧ t2.fp.Nodup ∧ g0 ∉ t2.fp := by
  have HZ := Lib.hid hz
  have HZ' := Lib.hid hz'
  have HE : Hid (∀ f, f = fam → decide (f = fam ∧ (n' : Int) = (n : Int) ∧ Same16 z' z) = false) := Lib.hid (fun f hf => decide_eq_false fun h => he h.2)
  have HSD := Lib.hid (fun W hk => side_nd g0 fam fam (h.getD 0) n' n z' z h.isSome l.root r.root hz hlt hn W hk)
  rw [hsd] at HSD
  have HREC := Lib.hid hrec
  have HLT := Lib.hid hl.lt
  have HL := Lib.hid hl
  have HG := Lib.hid hg
  have KN := Lib.hid hk
  have HG0 := Lib.hid hk.lt
  clear hz hz' he hk hsd hrec hn hlt hl hg
  go_enter Try.func48, Try.ntmps48
  have HK := Lib.hid (Kp.refl (g0 :: r.fp) w)
  obtain ⟨N1, hN1⟩ : ∃ N, w.heap.size = N := ⟨_, rfl⟩
  have HN1 := Lib.hid hN1
  clear hN1
  go_wp2_with (refine wpList_box (op := ⟨some 3, _, _, _, _, _⟩) rfl 32 (.tmp 1) rfl (pvC fam n z) rfl N1 HN1.out ?_; intro w1 k1 b1 s1; refine Hid.out ?_)
  refine Lib.hid ?_
  have le_HK_N1 : w.heap.size ≤ N1 := by rw [← HN1.out]; exact HK.out.size
  have K3 := Lib.hid k1
  clear k1
  have lt_g0_N1 : g0 < N1 := by rw [← HN1.out]; exact KN.out.lt
  have KNn := Lib.hid (KN.out.below b1 KN.out.lt)
  clear KN
  have KN := KNn
  clear KNn
  have HLn := Lib.hid (HL.out.below b1 HL.out.lt)
  clear HL
  have HL := HLn
  clear HLn
  have HKn := Lib.hid (HK.out.tb b1)
  clear HK
  have HK := HKn
  clear HKn
  clear b1 HN1
  go_wp2_with fail
  have HLd := Lib.hid HL.out.drew
  clear HL
  refine wp_region_held_drew (S := fun w' => Blk 106 w' g0 (ndC fam n' z' h.isSome (h.getD 0) l.root r.root) ∧ Blk 32 w' N1 (pvC fam n z) ∧ Kp (g0 :: r.fp) w w') (by kernel_rfl) ⟨KN.out, K3.out, HK.out.drew⟩ (fun hS => ?_)
  generalize hW2 : w1.drew = W2 at hS HLd ⊢
  clear hW2
  clear KN
  clear K3
  clear HK
  have HL := HLd
  clear HLd
  have KN := Lib.hid hS.1
  have K3 := Lib.hid hS.2.1
  have HK := Lib.hid hS.2.2
  refine takeY (i := 0) (some 6) (v := .pointer (some ⟨g0, 0, none⟩)) rfl rfl (by kernel_rfl) (by kernel_rfl) (by kernel_rfl) (fun _ _ _ h => h) (by rfl) (fun w' hS => by clear hS; go_simp) hS ?_
  simp only [Act.put, List.setIfInBounds_toArray, List.set_cons_zero, List.set_cons_succ]
  refine takeY (i := 1) (some 7) (v := .pointer (some ⟨g0, 0, none⟩)) rfl rfl (by kernel_rfl) (by kernel_rfl) (by kernel_rfl) (fun _ _ _ h => h) (by rfl) (fun w' hS => by clear hS; go_simp) hS ?_
  simp only [Act.put, List.setIfInBounds_toArray, List.set_cons_zero, List.set_cons_succ]
  refine takeY (i := 2) (some 8) (v := .pointer (some ⟨g0, 0, none⟩)) rfl rfl (by kernel_rfl) (by kernel_rfl) (by kernel_rfl) (fun _ _ _ h => h) (by rfl) (fun w' hS => by clear hS; go_simp) hS ?_
  simp only [Act.put, List.setIfInBounds_toArray, List.set_cons_zero, List.set_cons_succ]
  refine takeL (i := 3) (some 9) 32 (.tmp 8) g0 0 (pvC fam n' z') _ rfl rfl (by kernel_rfl) (by kernel_rfl) (by kernel_rfl) (fun _ _ _ h => h) (by rfl) rfl rfl (fun w' hS => hS.1.ndpv) Try.underlying32 rfl (hi_pv fam (n' : Int) z') hS ?_
  simp only [Act.put, List.setIfInBounds_toArray, List.set_cons_zero, List.set_cons_succ]
  refine takeL (i := 4) (some 10) 32 (.tmp 3) N1 0 (pvC fam n z) _ rfl rfl (by kernel_rfl) (by kernel_rfl) (by kernel_rfl) (fun _ _ _ h => h) (by rfl) rfl rfl (fun w' hS => hS.2.1.all) Try.underlying32 rfl (hi_pv fam (n : Int) z) hS ?_
  simp only [Act.put, List.setIfInBounds_toArray, List.set_cons_zero, List.set_cons_succ]
  refine takeY (i := 5) (some 11) (v := .bool false) rfl rfl (by kernel_rfl) (by kernel_rfl) (by kernel_rfl) (fun _ _ _ h => h) (by rfl) (fun w' hS => by refine (eql_pv _ _ _ _ rfl fam (n' : Int) z' fam (n : Int) z HZ'.out HZ.out rfl rfl _).trans ?_; rw [HE.out fam rfl]) hS ?_
  simp only [Act.put, List.setIfInBounds_toArray, List.set_cons_zero, List.set_cons_succ]
  clear hS
  refine wpAnyH_done (by kernel_rfl) ?_ _
  go_wp2_with (refine wpList_ld (op := ⟨some 19, _, _, _, _, _⟩) (by rfl) 32 (.tmp 3) rfl N1 0 rfl (pvC fam n z) _ K3.out.all Try.underlying32 rfl (hi_pv fam (n : Int) z) ?_; refine Hid.out ?_)
  refine Lib.hid ?_
  go_wp2_with fail
  refine (HSD.out _ KN.out).mono ?_
  rintro e w3 ⟨rfl, b1⟩
  have KNn := Lib.hid (KN.out.below b1 KN.out.lt)
  clear KN
  have KN := KNn
  clear KNn
  have K3n := Lib.hid (K3.out.below b1 K3.out.lt)
  clear K3
  have K3 := K3n
  clear K3n
  have HLn := Lib.hid (HL.out.below b1 HL.out.lt)
  clear HL
  have HL := HLn
  clear HLn
  have HKn := Lib.hid (HK.out.tb b1)
  clear HK
  have HK := HKn
  clear HKn
  clear b1
  go_wp2_with fail
  have HLd := Lib.hid HL.out.drew
  clear HL
  have KNd := Lib.hid KN.out.drew
  clear KN
  refine wp_region_held_drew (S := fun w' => Blk 32 w' N1 (pvC fam n z) ∧ Kp (g0 :: r.fp) w w') (by kernel_rfl) ⟨K3.out, HK.out.drew⟩ (fun hS => ?_)
  generalize hW4 : w3.drew = W4 at hS HLd KNd ⊢
  clear hW4
  clear K3
  clear HK
  have HL := HLd
  clear HLd
  have KN := KNd
  clear KNd
  have K3 := Lib.hid hS.1
  have HK := Lib.hid hS.2
  refine takeY (i := 0) (some 21) (v := .pointer (some ⟨g0, 0, none⟩)) rfl rfl (by kernel_rfl) (by kernel_rfl) (by kernel_rfl) (fun _ _ _ h => h) (by rfl) (fun w' hS => by clear hS; go_simp) hS ?_
  simp only [Act.put, List.setIfInBounds_toArray, List.set_cons_zero, List.set_cons_succ]
  refine takeY (i := 1) (some 22) (v := .int .u8 1) rfl rfl (by kernel_rfl) (by kernel_rfl) (by kernel_rfl) (fun _ _ _ h => h) (by rfl) (fun w' hS => by clear hS; go_simp) hS ?_
  simp only [Act.put, List.setIfInBounds_toArray, List.set_cons_zero, List.set_cons_succ]
  refine takeY (i := 2) (some 23) (v := .pointer (some ⟨g0, 0, none⟩)) rfl rfl (by kernel_rfl) (by kernel_rfl) (by kernel_rfl) (fun _ _ _ h => h) (by rfl) (fun w' hS => by clear hS; go_simp) hS ?_
  simp only [Act.put, List.setIfInBounds_toArray, List.set_cons_zero, List.set_cons_succ]
  refine takeY (i := 3) (some 24) (v := .int .u8 1) rfl rfl (by kernel_rfl) (by kernel_rfl) (by kernel_rfl) (fun _ _ _ h => h) (by rfl) (fun w' hS => by clear hS; go_simp) hS ?_
  simp only [Act.put, List.setIfInBounds_toArray, List.set_cons_zero, List.set_cons_succ]
  refine takeY (i := 4) (some 25) (v := .pointer (some ⟨g0, 0, none⟩)) rfl rfl (by kernel_rfl) (by kernel_rfl) (by kernel_rfl) (fun _ _ _ h => h) (by rfl) (fun w' hS => by clear hS; go_simp) hS ?_
  simp only [Act.put, List.setIfInBounds_toArray, List.set_cons_zero, List.set_cons_succ]
  refine takeY (i := 5) (some 26) (v := .pointer (some ⟨g0, 20, none⟩)) rfl rfl (by kernel_rfl) (by kernel_rfl) (by kernel_rfl) (fun _ _ _ h => h) (by rfl) (fun w' hS => by clear hS; go_simp) hS ?_
  simp only [Act.put, List.setIfInBounds_toArray, List.set_cons_zero, List.set_cons_succ]
  refine takeY (i := 6) (some 27) (v := .pointer (some ⟨g0, 21, none⟩)) rfl rfl (by kernel_rfl) (by kernel_rfl) (by kernel_rfl) (fun _ _ _ h => h) (by rfl) (fun w' hS => by clear hS; go_simp) hS ?_
  simp only [Act.put, List.setIfInBounds_toArray, List.set_cons_zero, List.set_cons_succ]
  refine takeL (i := 8) (some 29) 32 (.tmp 3) N1 0 (pvC fam n z) _ rfl rfl (by kernel_rfl) (by kernel_rfl) (by kernel_rfl) (fun _ _ _ h => h) (by rfl) rfl rfl (fun w' hS => hS.1.all) Try.underlying32 rfl (hi_pv fam (n : Int) z) hS ?_
  simp only [Act.put, List.setIfInBounds_toArray, List.set_cons_zero, List.set_cons_succ]
  refine takeY (i := 10) (some 31) (v := .pointer (some ⟨g0, 0, none⟩)) rfl rfl (by kernel_rfl) (by kernel_rfl) (by kernel_rfl) (fun _ _ _ h => h) (by rfl) (fun w' hS => by clear hS; go_simp) hS ?_
  simp only [Act.put, List.setIfInBounds_toArray, List.set_cons_zero, List.set_cons_succ]
  refine takeY (i := 11) (some 32) (v := .pointer (some ⟨g0, 20, none⟩)) rfl rfl (by kernel_rfl) (by kernel_rfl) (by kernel_rfl) (fun _ _ _ h => h) (by rfl) (fun w' hS => by clear hS; go_simp) hS ?_
  simp only [Act.put, List.setIfInBounds_toArray, List.set_cons_zero, List.set_cons_succ]
  refine takeV (i := 7) (some 28) (v := r.root) (w' := W4) rfl rfl (by kernel_rfl) (by rfl) (load_ptr _ _ _ rfl g0 21 rfl _ ((KN.out.cell 21).trans rfl)) hS ?_
  simp only [Act.put, List.setIfInBounds_toArray, List.set_cons_zero, List.set_cons_succ]
  refine takeCE (i := 9) (some 30) 48 #[r.root, .agg (pvC fam n z)] (R := fun v w' => ∃ t2 : Ht, v = t2.root ∧ t2.At w' fam ∧ t2.bits = T ∧ Kp r.fp W4 w' ∧ (∀ k, k ∈ t2.fp → k ∈ r.fp ∨ W4.heap.size ≤ k) ∧ t2.fp.Nodup) rfl rfl (by kernel_rfl) (by rfl) (by go_simp) ((HREC.out W4 HL.out).mono (by rintro e w9 ⟨t2, rfl, h9⟩; exact ⟨_, rfl, t2, rfl, h9⟩)) (fun v w' h => by obtain ⟨t2, rfl, ha2, hb2, hk2, hi2, hd2⟩ := h; exact ⟨K3.out.kp hk2 (fun h => absurd (HLT.out _ h) (by omega)), HK.out.tr hk2 (fun x hx => .inl (List.mem_cons_of_mem _ hx))⟩) (fun v W5 h hS2 => ?_)
  obtain ⟨t2, rfl, ha2, hb2, hk2, hi2, hd2⟩ := h
  clear hS2
  simp only [Act.put, List.setIfInBounds_toArray, List.set_cons_zero, List.set_cons_succ]
  have HA2 := Lib.hid ha2
  have HB2 := Lib.hid hb2
  have HI2 : Hid (∀ k, k ∈ t2.fp → k ∈ r.fp ∨ w.heap.size ≤ k) := Lib.hid (fun k hk => (hi2 k hk).imp_right (fun h => Nat.le_trans HK.out.size h))
  have HD2 := Lib.hid hd2
  have HG2 : Hid (g0 ∉ t2.fp) := Lib.hid (fun h => (HI2.out g0 h).elim HG.out (fun h9 => absurd HG0.out (by omega)))
  clear ha2 hb2 hi2 hd2
  have KNn := Lib.hid (KN.out.kp hk2 HG.out)
  clear KN
  have KN := KNn
  clear KNn
  have K3n := Lib.hid (K3.out.kp hk2 (fun h => absurd (HLT.out _ h) (by omega)))
  clear K3
  have K3 := K3n
  clear K3n
  have HKn := Lib.hid (HK.out.tr hk2 (fun x hx => .inl (List.mem_cons_of_mem _ hx)))
  clear HK
  have HK := HKn
  clear HKn
  clear hS
  have hS := (And.intro K3.out HK.out)
  refine takeY (i := 12) (some 33) (v := .pointer (some ⟨g0, 21, none⟩)) rfl rfl (by kernel_rfl) (by kernel_rfl) (by kernel_rfl) (fun _ _ _ h => h) (by rfl) (fun w' hS => by clear hS; go_simp) hS ?_
  simp only [Act.put, List.setIfInBounds_toArray, List.set_cons_zero, List.set_cons_succ]
  refine takeSt (i := 13) 87 (.tmp 33) (.tmp 30) g0 21 (t2.root) (#[t2.root]) (ndC fam n' z' h.isSome (h.getD 0) l.root t2.root) rfl rfl (by kernel_rfl) (by rfl) rfl rfl rfl (root_cells _) info_p1 (one_root _) KN.out (Nat.le_of_ble_eq_true rfl) (nd_put21 _ _ _ _ _ _ _ _) ?_
  intro W6 q1
  refine ⟨⟨K3.out.far q1 (by omega), HK.out.st q1 (.inl (List.mem_cons_self ..))⟩, ?_⟩
  simp only [Act.put, List.setIfInBounds_toArray, List.set_cons_zero, List.set_cons_succ]
  have KNn : Hid (Blk 106 W6 g0 (ndC fam n' z' h.isSome (h.getD 0) l.root t2.root)) := Lib.hid q1.1
  clear KN
  have KN := KNn
  clear KNn
  have HA2n := Lib.hid (HA2.out.far q1 HG2.out)
  clear HA2
  have HA2 := HA2n
  clear HA2n
  have K3n := Lib.hid (K3.out.far q1 (by omega))
  clear K3
  have K3 := K3n
  clear K3n
  have HKn := Lib.hid (HK.out.st q1 (.inl (List.mem_cons_self ..)))
  clear HK
  have HK := HKn
  clear HKn
  clear q1 hS
  have hS := (And.intro K3.out HK.out)
  clear hS
  refine wpAnyH_done (by kernel_rfl) ?_ _
  cases h with
  | some x =>
    have c18 : W6.cell? ⟨g0, 18, none⟩ = some (.bool true) := (KN.out.cell 18).trans rfl
    go_wp2_with fail
    refine bodyPost_ret (v := .pointer (some ⟨g0, 0, none⟩)) (by simp [results, Try.f48, go_sem]) rfl ?_
    exact ⟨_, rfl, KN.out, HA2.out, HB2.out, HK.out, HI2.out, HD2.out, HG2.out⟩
  | none =>
    cases l with
    | nil =>
      have c18 : W6.cell? ⟨g0, 18, none⟩ = some (.bool false) := (KN.out.cell 18).trans rfl
      have c20 : W6.cell? ⟨g0, 20, none⟩ = some (.pointer none) := (KN.out.cell 20).trans rfl
      go_wp2_with (refine wpList_v (op := ⟨some 51, _, _, _, _, _⟩) rfl (t2).root (load_ptr _ _ _ rfl g0 21 rfl t2 ((KN.out.cell 21).trans rfl)) ?_; refine Hid.out ?_)
      refine Lib.hid ?_
      go_wp2_with fail
      refine bodyPost_ret (v := (t2).root) (by simp [results, Try.f48, go_sem]) rfl ?_
      exact ⟨_, rfl, KN.out, HA2.out, HB2.out, HK.out, HI2.out, HD2.out, HG2.out⟩
    | nd g1 n1 z1 v1 l1 r1 =>
      cases t2 with
      | nil =>
        have c18 : W6.cell? ⟨g0, 18, none⟩ = some (.bool false) := (KN.out.cell 18).trans rfl
        have c20 : W6.cell? ⟨g0, 20, none⟩ = some (.pointer (some ⟨g1, 0, none⟩)) := (KN.out.cell 20).trans rfl
        have c21 : W6.cell? ⟨g0, 21, none⟩ = some (.pointer none) := (KN.out.cell 21).trans rfl
        go_wp2_with fail
        refine bodyPost_ret (v := .pointer (some ⟨g1, 0, none⟩)) (by simp [results, Try.f48, go_sem]) rfl ?_
        exact ⟨_, rfl, KN.out, HA2.out, HB2.out, HK.out, HI2.out, HD2.out, HG2.out⟩
      | nd g2 n2 z2 v2 l2 r2 =>
        have c18 : W6.cell? ⟨g0, 18, none⟩ = some (.bool false) := (KN.out.cell 18).trans rfl
        have c20 : W6.cell? ⟨g0, 20, none⟩ = some (.pointer (some ⟨g1, 0, none⟩)) := (KN.out.cell 20).trans rfl
        have c21 : W6.cell? ⟨g0, 21, none⟩ = some (.pointer (some ⟨g2, 0, none⟩)) := (KN.out.cell 21).trans rfl
        go_wp2_with fail
        refine bodyPost_ret (v := .pointer (some ⟨g0, 0, none⟩)) (by simp [results, Try.f48, go_sem]) rfl ?_
        exact ⟨_, rfl, KN.out, HA2.out, HB2.out, HK.out, HI2.out, HD2.out, HG2.out⟩

section
variable {g n : Nat} {z : Nat → Int} {h : Option Int} {l r : Ht}
theorem shr_at {w : World} {fam : Int} (k : (Ht.nd g n z h l r).At w fam) : (shr g n z h l r).At w fam := by
  cases h with
  | some x => exact k
  | none =>
    cases l with
    | nil => exact k.2.2.2.2
    | nd g1 n1 z1 v1 l1 r1 => cases r with
      | nil => exact k.2.2.2.1
      | nd g2 n2 z2 v2 l2 r2 => exact k
theorem shr_bits : (shr g n z h l r).bits = Tr.shrink (btP n z) h l.bits r.bits := by
  cases h with
  | some x => rfl
  | none => cases l with
    | nil => rfl
    | nd g1 n1 z1 v1 l1 r1 => cases r with
      | nil => rfl
      | nd g2 n2 z2 v2 l2 r2 => rfl
theorem shr_fp {k : Nat} (hk : k ∈ (shr g n z h l r).fp) : k ∈ (Ht.nd g n z h l r).fp := by
  cases h with
  | some x => exact hk
  | none => cases l with
    | nil => exact mem_nd.2 (.inr (.inr hk))
    | nd g1 n1 z1 v1 l1 r1 => cases r with
      | nil => exact mem_nd.2 (.inr (.inl hk))
      | nd g2 n2 z2 v2 l2 r2 => exact hk
theorem shr_nodup (k : (Ht.nd g n z h l r).fp.Nodup) : (shr g n z h l r).fp.Nodup := by
  obtain ⟨_, _, d3, d4, _⟩ := nd_nodup k
  cases h with
  | some x => exact k
  | none => cases l with
    | nil => exact d4
    | nd g1 n1 z1 v1 l1 r1 => cases r with
      | nil => exact d3
      | nd g2 n2 z2 v2 l2 r2 => exact k
end
set_option maxRecDepth 100000 in
theorem without_any (fam : Int) (n : Nat) (z : Nat → Int) (hz : Bytes z) (hf : Form fam n z) : ∀ (t : Ht) (w : World), t.At w fam → t.fp.Nodup → Tr.get t.bits (btP n z) ≠ none →
    Calls Try.prog 48 #[t.root, .agg (pvC fam n z)] w (TreeP fam t.fp (Tr.del (btP n z) t.bits) w)
  | .nil, w, _, _, hg => absurd rfl hg
  | .nd g n' z' v' l r, w, h, hnd, hg => by
    have h0 := h
    obtain ⟨hk, hz', hf', hl, hr⟩ := h
    obtain ⟨d1, d2, d3, d4, d5⟩ := nd_nodup hnd
    have hn := form_len hf
    show Calls _ _ #[.pointer (some ⟨g, 0, none⟩), _] w (TreeP fam _ (Tr.del (btP n z) (.nd (btP n' z') v' l.bits r.bits)) w)
    have hg' : Tr.get (.nd (btP n' z') v' l.bits r.bits) (btP n z) ≠ none := hg
    have hcov := Tr.get_cov hg'
    unfold Tr.del
    by_cases e1 : btP n' z' = btP n z
    · rw [if_pos e1]
      obtain ⟨a1, a2⟩ := (btP_eq hz' hz hf' hf).1 e1
      refine (without_same g fam n n' z z' v' l r hz hz' ⟨by rw [a1], a2⟩ w hk).mono ?_
      rintro e w' ⟨rfl, k1, k2⟩
      have hAt : (Ht.nd g n' z' none l r).At w' fam := ⟨k1, hz', hf', hl.kp k2 (fun x hx h9 => d1 (by simpa using List.mem_singleton.1 h9 ▸ hx)), hr.kp k2 (fun x hx h9 => d2 (by simpa using List.mem_singleton.1 h9 ▸ hx))⟩
      refine ⟨_, rfl, shr_at hAt, shr_bits, ?_, fun k hk => .inl (shr_fp (h := none) hk), shr_nodup (h := none) hnd⟩
      exact (Kp.refl _ w).tr k2 (fun x hx => .inl (mem_nd.2 (.inl (List.mem_singleton.1 hx))))
    rw [if_neg e1]
    have he : ¬ ((n' : Int) = (n : Int) ∧ Same16 z' z) := fun h9 => e1 ((btP_eq hz' hz hf' hf).2 ⟨by omega, h9.2⟩)
    have hlt : n' < n := by have := Tr.pre_len hcov e1; rwa [btP_len, btP_len] at this
    unfold Tr.get at hg'
    rw [if_neg e1, if_pos hcov, btP_len] at hg'
    rw [btP_len]
    by_cases hs : Tr.side (btP n z) n' = true
    · rw [if_pos hs] at hg' ⊢
      refine (without_side1 g fam n n' z z' v' l r hz hz' hn he hlt hs _ (fun W hW => without_any fam n z hz hf r W hW d4 hg') w hk hr d2).mono ?_
      rintro e w' ⟨t2, rfl, k1, k2, k3, k4, k5, k6, k7⟩
      have hlr : ∀ x, x ∈ l.fp → x ∉ t2.fp := fun x hx h9 => (k5 x h9).elim (d5 x hx) (fun h8 => absurd (hl.lt x hx) (by omega))
      have hAt : (Ht.nd g n' z' v' l t2).At w' fam := ⟨k1, hz', hf', hl.kp k4 (fun x hx h9 => by
        rcases List.mem_cons.1 h9 with h8 | h8
        · exact d1 (h8 ▸ hx)
        · exact d5 x hx h8), k2⟩
      refine ⟨_, rfl, shr_at hAt, by rw [shr_bits, k3], ⟨k4.os, k4.tape, k4.output, k4.size, fun i hi hx => k4.block i hi (fun h9 => hx (by rcases List.mem_cons.1 h9 with h8 | h8; exact mem_nd.2 (.inl h8); exact mem_nd.2 (.inr (.inr h8))))⟩, fun k hk => ?_, shr_nodup (nd_nodup' d1 k7 d3 k6 hlr)⟩
      rcases mem_nd.1 (shr_fp hk) with h9 | h9 | h9
      · exact .inl (mem_nd.2 (.inl h9))
      · exact .inl (mem_nd.2 (.inr (.inl h9)))
      · exact (k5 k h9).imp_left (fun h8 => mem_nd.2 (.inr (.inr h8)))
    · rw [if_neg hs] at hg' ⊢
      rw [Bool.not_eq_true] at hs
      refine (without_side0 g fam n n' z z' v' l r hz hz' hn he hlt hs _ (fun W hW => without_any fam n z hz hf l W hW d3 hg') w hk hl d1).mono ?_
      rintro e w' ⟨t2, rfl, k1, k2, k3, k4, k5, k6, k7⟩
      have hlr : ∀ x, x ∈ t2.fp → x ∉ r.fp := fun x hx h9 => (k5 x hx).elim (fun h8 => d5 x h8 h9) (fun h8 => absurd (hr.lt x h9) (by omega))
      have hAt : (Ht.nd g n' z' v' t2 r).At w' fam := ⟨k1, hz', hf', k2, hr.kp k4 (fun x hx h9 => by
        rcases List.mem_cons.1 h9 with h8 | h8
        · exact d2 (h8 ▸ hx)
        · exact d5 x h8 hx)⟩
      refine ⟨_, rfl, shr_at hAt, by rw [shr_bits, k3], ⟨k4.os, k4.tape, k4.output, k4.size, fun i hi hx => k4.block i hi (fun h9 => hx (by rcases List.mem_cons.1 h9 with h8 | h8; exact mem_nd.2 (.inl h8); exact mem_nd.2 (.inr (.inl h8))))⟩, fun k hk => ?_, shr_nodup (nd_nodup' k7 d2 k6 d4 hlr)⟩
      rcases mem_nd.1 (shr_fp hk) with h9 | h9 | h9
      · exact .inl (mem_nd.2 (.inl h9))
      · exact (k5 k h9).imp_left (fun h8 => mem_nd.2 (.inr (.inl h8)))
      · exact .inl (mem_nd.2 (.inr (.inr h9)))
end Go.Proofs.Ytjnbemopfhinbaa
