/- fork and with of the program's trie. Each theorem states its conditions. -/
import Derived.Test.YtjnbemopfhinbaaTrM
namespace Go.Proofs.Ytjnbemopfhinbaa
open Go.RowKit
set_option linter.unusedVariables false
set_option linter.unusedSimpArgs false

theorem zero_pvT : (Try.prog.info? 32).map (·.zero) = some (some (.agg (pvC 0 0 Z0))) := by kernel_rfl
theorem pv_over (fam len fam' len' : Int) (z z' : Nat → Int) : putMany (pvC fam len z) 0 (pvC fam' len' z').toList = pvC fam' len' z' := by kernel_rfl
set_option maxHeartbeats 16000000 in
set_option maxRecDepth 100000 in
theorem with_nil (fam v : Int) (n : Nat) (z : Nat → Int) (hz : Bytes z) (hf : Form fam n z) (w : World) :
    Calls Try.prog 44 #[.pointer none, .agg (pvC fam n z), .int .i64 v] w (TreeP fam [] (Tr.leaf (btP n z) v) w) := by
  have HZ := Lib.hid (And.intro hz hf)
  clear hz hf
  go_enter Try.func44, Try.ntmps44
  have HB := Lib.hid (Below.refl w.heap.size w)
  obtain ⟨N1, hN1⟩ : ∃ N, w.heap.size = N := ⟨_, rfl⟩
  have HN1 := Lib.hid hN1
  clear hN1
  go_wp2_with (refine wpList_box (op := ⟨some 4, _, _, _, _, _⟩) rfl 32 (.tmp 1) rfl (pvC fam n z) rfl N1 HN1.out ?_; intro w1 k1 b1 s1; refine Hid.out ?_)
  refine Lib.hid ?_
  have K4 := Lib.hid k1
  clear k1
  have le_HB_N1 : w.heap.size ≤ N1 := by rw [← HN1.out]; exact HB.out.size
  have HBn := Lib.hid (HB.out.trans (b1.mono HB.out.size))
  clear HB
  have HB := HBn
  clear HBn
  clear b1 HN1
  go_wp2_with (refine wpList_ld (op := ⟨some 11, _, _, _, _, _⟩) (by rfl) 32 (.tmp 4) rfl N1 0 rfl (pvC fam n z) _ K4.out.all Try.underlying32 rfl (hi_pv fam (n : Int) z) ?_; refine Hid.out ?_)
  refine Lib.hid ?_
  go_wp2_with (refine wpList_v (op := ⟨some 13, _, _, _, _, _⟩) rfl (.agg (ndC fam n z true v (.pointer none) (.pointer none))) (build_nd1 _ _ _ _ rfl fam v n z rfl rfl rfl _) ?_; refine Hid.out ?_)
  refine Lib.hid ?_
  obtain ⟨N2, hN2⟩ : ∃ N, w1.heap.size = N := ⟨_, rfl⟩
  have HN2 := Lib.hid hN2
  clear hN2
  go_wp2_with (refine wpList_box (op := ⟨some 14, _, _, _, _, _⟩) rfl 106 (.tmp 13) rfl (ndC fam n z true v (.pointer none) (.pointer none)) rfl N2 HN2.out ?_; intro w2 k1 b1 s1; refine Hid.out ?_)
  refine Lib.hid ?_
  have K14 := Lib.hid k1
  clear k1
  have lt_N1_N2 : N1 < N2 := by rw [← HN2.out]; exact K4.out.lt
  have le_HB_N2 : w.heap.size ≤ N2 := by rw [← HN2.out]; exact HB.out.size
  have K4n := Lib.hid (K4.out.below b1 K4.out.lt)
  clear K4
  have K4 := K4n
  clear K4n
  have HBn := Lib.hid (HB.out.trans (b1.mono HB.out.size))
  clear HB
  have HB := HBn
  clear HBn
  clear b1 HN2
  go_wp2_with fail
  refine bodyPost_ret (v := .pointer (some ⟨N2, 0, none⟩)) (by simp [results, Try.f44, go_sem]) rfl ?_
  exact ⟨.nd N2 n z (some v) .nil .nil, rfl, ⟨K14.out, HZ.out.1, HZ.out.2, trivial, trivial⟩, rfl, Kp.of_below _ HB.out, fun k hk => by
    simp only [Ht.fp, List.append_nil, List.mem_singleton] at hk
    subst hk
    right
    assumption, by simp [Ht.fp]⟩
set_option maxHeartbeats 16000000 in
set_option maxRecDepth 100000 in
theorem with_same (g0 : Nat) (fam m v : Int) (n n' : Nat) (z z' : Nat → Int) (hb : Bool) (l r : Ht) (hz : Bytes z) (hz' : Bytes z') (he : (n' : Int) = (n : Int) ∧ Same16 z' z) (w : World) (hk : Blk 106 w g0 (ndC fam n' z' hb m l.root r.root)) :
    Calls Try.prog 44 #[.pointer (some ⟨g0, 0, none⟩), .agg (pvC fam n z), .int .i64 v] w fun e w' => e = .returned (.pointer (some ⟨g0, 0, none⟩)) ∧ Blk 106 w' g0 (ndC fam n' z' true v l.root r.root) ∧ Kp [g0] w w' := by
  have HZ := Lib.hid hz
  have HZ' := Lib.hid hz'
  have HE : Hid (∀ f, f = fam → decide (f = fam ∧ (n' : Int) = (n : Int) ∧ Same16 z' z) = true) := Lib.hid (fun f hf => decide_eq_true ⟨hf, he⟩)
  have KN := Lib.hid hk
  clear hz hz' he hk
  go_enter Try.func44, Try.ntmps44
  have HK := Lib.hid (Kp.refl ([g0]) w)
  obtain ⟨N1, hN1⟩ : ∃ N, w.heap.size = N := ⟨_, rfl⟩
  have HN1 := Lib.hid hN1
  clear hN1
  go_wp2_with (refine wpList_box (op := ⟨some 4, _, _, _, _, _⟩) rfl 32 (.tmp 1) rfl (pvC fam n z) rfl N1 HN1.out ?_; intro w1 k1 b1 s1; refine Hid.out ?_)
  refine Lib.hid ?_
  have le_HK_N1 : w.heap.size ≤ N1 := by rw [← HN1.out]; exact HK.out.size
  have K4 := Lib.hid k1
  clear k1
  have lt_g0_N1 : g0 < N1 := by rw [← HN1.out]; exact KN.out.lt
  have KNn := Lib.hid (KN.out.below b1 KN.out.lt)
  clear KN
  have KN := KNn
  clear KNn
  have HKn := Lib.hid (HK.out.tb b1)
  clear HK
  have HK := HKn
  clear HKn
  clear b1 HN1
  go_wp2_with fail
  refine wp_region_held_drew (S := fun w' => Blk 106 w' g0 (ndC fam n' z' hb m l.root r.root) ∧ Blk 32 w' N1 (pvC fam n z) ∧ Kp ([g0]) w w') (by kernel_rfl) ⟨KN.out, K4.out, HK.out.drew⟩ (fun hS => ?_)
  generalize hW2 : w1.drew = W2 at hS  ⊢
  clear hW2
  clear KN
  clear K4
  clear HK
  have KN := Lib.hid hS.1
  have K4 := Lib.hid hS.2.1
  have HK := Lib.hid hS.2.2
  refine takeY (i := 0) (some 16) (v := .pointer (some ⟨g0, 0, none⟩)) rfl rfl (by kernel_rfl) (by kernel_rfl) (by kernel_rfl) (fun _ _ _ h => h) (by rfl) (fun w' hS => by clear hS; go_simp) hS ?_
  simp only [Act.put, List.setIfInBounds_toArray, List.set_cons_zero, List.set_cons_succ]
  refine takeY (i := 1) (some 17) (v := .pointer (some ⟨g0, 0, none⟩)) rfl rfl (by kernel_rfl) (by kernel_rfl) (by kernel_rfl) (fun _ _ _ h => h) (by rfl) (fun w' hS => by clear hS; go_simp) hS ?_
  simp only [Act.put, List.setIfInBounds_toArray, List.set_cons_zero, List.set_cons_succ]
  refine takeY (i := 2) (some 18) (v := .pointer (some ⟨g0, 0, none⟩)) rfl rfl (by kernel_rfl) (by kernel_rfl) (by kernel_rfl) (fun _ _ _ h => h) (by rfl) (fun w' hS => by clear hS; go_simp) hS ?_
  simp only [Act.put, List.setIfInBounds_toArray, List.set_cons_zero, List.set_cons_succ]
  refine takeL (i := 3) (some 19) 32 (.tmp 18) g0 0 (pvC fam n' z') _ rfl rfl (by kernel_rfl) (by kernel_rfl) (by kernel_rfl) (fun _ _ _ h => h) (by rfl) rfl rfl (fun w' hS => hS.1.ndpv) Try.underlying32 rfl (hi_pv fam (n' : Int) z') hS ?_
  simp only [Act.put, List.setIfInBounds_toArray, List.set_cons_zero, List.set_cons_succ]
  refine takeL (i := 4) (some 20) 32 (.tmp 4) N1 0 (pvC fam n z) _ rfl rfl (by kernel_rfl) (by kernel_rfl) (by kernel_rfl) (fun _ _ _ h => h) (by rfl) rfl rfl (fun w' hS => hS.2.1.all) Try.underlying32 rfl (hi_pv fam (n : Int) z) hS ?_
  simp only [Act.put, List.setIfInBounds_toArray, List.set_cons_zero, List.set_cons_succ]
  refine takeY (i := 5) (some 21) (v := .bool true) rfl rfl (by kernel_rfl) (by kernel_rfl) (by kernel_rfl) (fun _ _ _ h => h) (by rfl) (fun w' hS => by refine (eql_pv _ _ _ _ rfl fam (n' : Int) z' fam (n : Int) z HZ'.out HZ.out rfl rfl _).trans ?_; rw [HE.out fam rfl]) hS ?_
  simp only [Act.put, List.setIfInBounds_toArray, List.set_cons_zero, List.set_cons_succ]
  refine takeY (i := 6) (some 15) (v := .bool true) rfl rfl (by kernel_rfl) (by kernel_rfl) (by kernel_rfl) (fun _ _ _ h => h) (by rfl) (fun w' hS => by clear hS; go_simp) hS ?_
  simp only [Act.put, List.setIfInBounds_toArray, List.set_cons_zero, List.set_cons_succ]
  clear hS
  refine wpAnyH_done (by kernel_rfl) ?_ _
  go_wp2_with (refine wpList_st rfl 4 (.tmp 26) (.const (.bool true)) rfl g0 18 rfl (.bool true) (#[.bool true]) rfl rfl info_b1 (one_bool' _) KN.out (Nat.le_of_ble_eq_true rfl) (C' := ndC fam n' z' true m l.root r.root) (nd_put18 _ _ _ _ _ _ _ _) ?_; intro w40 q1; refine Hid.out ?_)
  refine Lib.hid ?_
  have HKn := Lib.hid (HK.out.st q1 (.inl (by simp)))
  clear HK
  have HK := HKn
  clear HKn
  have K4n := Lib.hid (K4.out.far q1 (by omega))
  clear K4
  have K4 := K4n
  clear K4n
  have KNn : Hid (Blk 106 w40 g0 (ndC fam n' z' true m l.root r.root)) := Lib.hid q1.1
  clear KN
  have KN := KNn
  clear KNn q1
  go_wp2_with (refine wpList_st rfl 3 (.tmp 28) (.tmp 24) rfl g0 19 rfl (.int .i64 v) (#[.int .i64 v]) rfl rfl info_i1 (one_i64 _) KN.out (Nat.le_of_ble_eq_true rfl) (C' := ndC fam n' z' true v l.root r.root) (nd_put19 _ _ _ _ _ _ _ _) ?_; intro w41 q1; refine Hid.out ?_)
  refine Lib.hid ?_
  have HKn := Lib.hid (HK.out.st q1 (.inl (by simp)))
  clear HK
  have HK := HKn
  clear HKn
  have K4n := Lib.hid (K4.out.far q1 (by omega))
  clear K4
  have K4 := K4n
  clear K4n
  have KNn : Hid (Blk 106 w41 g0 (ndC fam n' z' true v l.root r.root)) := Lib.hid q1.1
  clear KN
  have KN := KNn
  clear KNn q1
  go_wp2_with fail
  refine bodyPost_ret (v := .pointer (some ⟨g0, 0, none⟩)) (by simp [results, Try.f44, go_sem]) rfl ?_
  exact ⟨rfl, KN.out, HK.out⟩
set_option maxHeartbeats 16000000 in
set_option maxRecDepth 100000 in
theorem with_side0 (g0 : Nat) (fam m v : Int) (n n' : Nat) (z z' : Nat → Int) (hb : Bool) (l r : Ht) (hz : Bytes z) (hz' : Bytes z') (hn : n ≤ 128) (he : ¬ ((n' : Int) = (n : Int) ∧ Same16 z' z)) (hc : btP n' z' <+: btP n z) (hlt : n' < n) (hsd : Tr.side (btP n z) n' = false) (T : Tr) (hrec : ∀ W, l.At W fam → Calls Try.prog 44 #[l.root, .agg (pvC fam n z), .int .i64 v] W (TreeP fam l.fp T W)) (w : World) (hk : Blk 106 w g0 (ndC fam n' z' hb m l.root r.root)) (hl : l.At w fam) (hg : g0 ∉ l.fp) :
    Calls Try.prog 44 #[.pointer (some ⟨g0, 0, none⟩), .agg (pvC fam n z), .int .i64 v] w fun e w' => ∃ t2 : Ht, e = .returned (.pointer (some ⟨g0, 0, none⟩)) ∧ Blk 106 w' g0 (ndC fam n' z' hb m t2.root r.root) ∧ t2.At w' fam ∧ t2.bits = T ∧ Kp (g0 :: l.fp) w w' ∧ (∀ k, k ∈ t2.fp → k ∈ l.fp ∨ w.heap.size ≤ k) ∧ t2.fp.Nodup ∧ g0 ∉ t2.fp := by
  have HZ := Lib.hid hz
  have HZ' := Lib.hid hz'
  have HE : Hid (∀ f, f = fam → decide (f = fam ∧ (n' : Int) = (n : Int) ∧ Same16 z' z) = false) := Lib.hid (fun f hf => decide_eq_false fun h => he h.2)
  have HC := Lib.hid (fun W hk => covers_nd g0 fam fam m n' n z' z hb l.root r.root hz' hz (by omega) hn W hk)
  rw [show decide (btP n' z' <+: btP n z) = true from decide_eq_true hc] at HC
  have HSD := Lib.hid (fun W hk => side_nd g0 fam fam m n' n z' z hb l.root r.root hz hlt hn W hk)
  rw [hsd] at HSD
  have HREC := Lib.hid hrec
  have HLT := Lib.hid hl.lt
  have HL := Lib.hid hl
  have HG := Lib.hid hg
  have KN := Lib.hid hk
  have HG0 := Lib.hid hk.lt
  clear hz hz' he hk hc hsd hrec hn hlt hl hg
  go_enter Try.func44, Try.ntmps44
  have HK := Lib.hid (Kp.refl (g0 :: l.fp) w)
  obtain ⟨N1, hN1⟩ : ∃ N, w.heap.size = N := ⟨_, rfl⟩
  have HN1 := Lib.hid hN1
  clear hN1
  go_wp2_with (refine wpList_box (op := ⟨some 4, _, _, _, _, _⟩) rfl 32 (.tmp 1) rfl (pvC fam n z) rfl N1 HN1.out ?_; intro w1 k1 b1 s1; refine Hid.out ?_)
  refine Lib.hid ?_
  have le_HK_N1 : w.heap.size ≤ N1 := by rw [← HN1.out]; exact HK.out.size
  have K4 := Lib.hid k1
  clear k1
  have lt_g0_N1 : g0 < N1 := by rw [← HN1.out]; exact KN.out.lt
  have KNn := Lib.hid (KN.out.below b1 KN.out.lt)
  clear KN
  have KN := KNn
  clear KNn
  have HLn := Lib.hid (HL.out.below b1 HL.out.lt)
  clear HL
  have HL := HLn
  clear HLn
  have HKn := Lib.hid (HK.out.tb b1)
  clear HK
  have HK := HKn
  clear HKn
  clear b1 HN1
  go_wp2_with fail
  have HLd := Lib.hid HL.out.drew
  clear HL
  refine wp_region_held_drew (S := fun w' => Blk 106 w' g0 (ndC fam n' z' hb m l.root r.root) ∧ Blk 32 w' N1 (pvC fam n z) ∧ Kp (g0 :: l.fp) w w') (by kernel_rfl) ⟨KN.out, K4.out, HK.out.drew⟩ (fun hS => ?_)
  generalize hW2 : w1.drew = W2 at hS HLd ⊢
  clear hW2
  clear KN
  clear K4
  clear HK
  have HL := HLd
  clear HLd
  have KN := Lib.hid hS.1
  have K4 := Lib.hid hS.2.1
  have HK := Lib.hid hS.2.2
  refine takeY (i := 0) (some 16) (v := .pointer (some ⟨g0, 0, none⟩)) rfl rfl (by kernel_rfl) (by kernel_rfl) (by kernel_rfl) (fun _ _ _ h => h) (by rfl) (fun w' hS => by clear hS; go_simp) hS ?_
  simp only [Act.put, List.setIfInBounds_toArray, List.set_cons_zero, List.set_cons_succ]
  refine takeY (i := 1) (some 17) (v := .pointer (some ⟨g0, 0, none⟩)) rfl rfl (by kernel_rfl) (by kernel_rfl) (by kernel_rfl) (fun _ _ _ h => h) (by rfl) (fun w' hS => by clear hS; go_simp) hS ?_
  simp only [Act.put, List.setIfInBounds_toArray, List.set_cons_zero, List.set_cons_succ]
  refine takeY (i := 2) (some 18) (v := .pointer (some ⟨g0, 0, none⟩)) rfl rfl (by kernel_rfl) (by kernel_rfl) (by kernel_rfl) (fun _ _ _ h => h) (by rfl) (fun w' hS => by clear hS; go_simp) hS ?_
  simp only [Act.put, List.setIfInBounds_toArray, List.set_cons_zero, List.set_cons_succ]
  refine takeL (i := 3) (some 19) 32 (.tmp 18) g0 0 (pvC fam n' z') _ rfl rfl (by kernel_rfl) (by kernel_rfl) (by kernel_rfl) (fun _ _ _ h => h) (by rfl) rfl rfl (fun w' hS => hS.1.ndpv) Try.underlying32 rfl (hi_pv fam (n' : Int) z') hS ?_
  simp only [Act.put, List.setIfInBounds_toArray, List.set_cons_zero, List.set_cons_succ]
  refine takeL (i := 4) (some 20) 32 (.tmp 4) N1 0 (pvC fam n z) _ rfl rfl (by kernel_rfl) (by kernel_rfl) (by kernel_rfl) (fun _ _ _ h => h) (by rfl) rfl rfl (fun w' hS => hS.2.1.all) Try.underlying32 rfl (hi_pv fam (n : Int) z) hS ?_
  simp only [Act.put, List.setIfInBounds_toArray, List.set_cons_zero, List.set_cons_succ]
  refine takeY (i := 5) (some 21) (v := .bool false) rfl rfl (by kernel_rfl) (by kernel_rfl) (by kernel_rfl) (fun _ _ _ h => h) (by rfl) (fun w' hS => by refine (eql_pv _ _ _ _ rfl fam (n' : Int) z' fam (n : Int) z HZ'.out HZ.out rfl rfl _).trans ?_; rw [HE.out fam rfl]) hS ?_
  simp only [Act.put, List.setIfInBounds_toArray, List.set_cons_zero, List.set_cons_succ]
  refine takeY (i := 6) (some 15) (v := .bool false) rfl rfl (by kernel_rfl) (by kernel_rfl) (by kernel_rfl) (fun _ _ _ h => h) (by rfl) (fun w' hS => by clear hS; go_simp) hS ?_
  simp only [Act.put, List.setIfInBounds_toArray, List.set_cons_zero, List.set_cons_succ]
  clear hS
  refine wpAnyH_done (by kernel_rfl) ?_ _
  go_wp2_with (refine wpList_ld (op := ⟨some 32, _, _, _, _, _⟩) (by rfl) 32 (.tmp 4) rfl N1 0 rfl (pvC fam n z) _ K4.out.all Try.underlying32 rfl (hi_pv fam (n : Int) z) ?_; refine Hid.out ?_)
  refine Lib.hid ?_
  go_wp2_with fail
  refine (HC.out _ KN.out).mono ?_
  rintro e w3 ⟨rfl, b1⟩
  have KNn := Lib.hid (KN.out.below b1 KN.out.lt)
  clear KN
  have KN := KNn
  clear KNn
  have K4n := Lib.hid (K4.out.below b1 K4.out.lt)
  clear K4
  have K4 := K4n
  clear K4n
  have HLn := Lib.hid (HL.out.below b1 HL.out.lt)
  clear HL
  have HL := HLn
  clear HLn
  have HKn := Lib.hid (HK.out.tb b1)
  clear HK
  have HK := HKn
  clear HKn
  clear b1
  go_wp2_with (refine wpList_ld (op := ⟨some 42, _, _, _, _, _⟩) (by rfl) 32 (.tmp 4) rfl N1 0 rfl (pvC fam n z) _ K4.out.all Try.underlying32 rfl (hi_pv fam (n : Int) z) ?_; refine Hid.out ?_)
  refine Lib.hid ?_
  go_wp2_with fail
  refine (HSD.out _ KN.out).mono ?_
  rintro e w4 ⟨rfl, b1⟩
  have KNn := Lib.hid (KN.out.below b1 KN.out.lt)
  clear KN
  have KN := KNn
  clear KNn
  have K4n := Lib.hid (K4.out.below b1 K4.out.lt)
  clear K4
  have K4 := K4n
  clear K4n
  have HLn := Lib.hid (HL.out.below b1 HL.out.lt)
  clear HL
  have HL := HLn
  clear HLn
  have HKn := Lib.hid (HK.out.tb b1)
  clear HK
  have HK := HKn
  clear HKn
  clear b1
  go_wp2_with fail
  have HLd := Lib.hid HL.out.drew
  clear HL
  have KNd := Lib.hid KN.out.drew
  clear KN
  refine wp_region_held_drew (S := fun w' => Blk 32 w' N1 (pvC fam n z) ∧ Kp (g0 :: l.fp) w w') (by kernel_rfl) ⟨K4.out, HK.out.drew⟩ (fun hS => ?_)
  generalize hW5 : w4.drew = W5 at hS HLd KNd ⊢
  clear hW5
  clear K4
  clear HK
  have HL := HLd
  clear HLd
  have KN := KNd
  clear KNd
  have K4 := Lib.hid hS.1
  have HK := Lib.hid hS.2
  refine takeY (i := 0) (some 44) (v := .pointer (some ⟨g0, 0, none⟩)) rfl rfl (by kernel_rfl) (by kernel_rfl) (by kernel_rfl) (fun _ _ _ h => h) (by rfl) (fun w' hS => by clear hS; go_simp) hS ?_
  simp only [Act.put, List.setIfInBounds_toArray, List.set_cons_zero, List.set_cons_succ]
  refine takeY (i := 1) (some 45) (v := .int .u8 0) rfl rfl (by kernel_rfl) (by kernel_rfl) (by kernel_rfl) (fun _ _ _ h => h) (by rfl) (fun w' hS => by clear hS; go_simp) hS ?_
  simp only [Act.put, List.setIfInBounds_toArray, List.set_cons_zero, List.set_cons_succ]
  refine takeY (i := 2) (some 46) (v := .pointer (some ⟨g0, 0, none⟩)) rfl rfl (by kernel_rfl) (by kernel_rfl) (by kernel_rfl) (fun _ _ _ h => h) (by rfl) (fun w' hS => by clear hS; go_simp) hS ?_
  simp only [Act.put, List.setIfInBounds_toArray, List.set_cons_zero, List.set_cons_succ]
  refine takeY (i := 3) (some 47) (v := .int .u8 0) rfl rfl (by kernel_rfl) (by kernel_rfl) (by kernel_rfl) (fun _ _ _ h => h) (by rfl) (fun w' hS => by clear hS; go_simp) hS ?_
  simp only [Act.put, List.setIfInBounds_toArray, List.set_cons_zero, List.set_cons_succ]
  refine takeY (i := 4) (some 48) (v := .pointer (some ⟨g0, 0, none⟩)) rfl rfl (by kernel_rfl) (by kernel_rfl) (by kernel_rfl) (fun _ _ _ h => h) (by rfl) (fun w' hS => by clear hS; go_simp) hS ?_
  simp only [Act.put, List.setIfInBounds_toArray, List.set_cons_zero, List.set_cons_succ]
  refine takeY (i := 5) (some 49) (v := .pointer (some ⟨g0, 20, none⟩)) rfl rfl (by kernel_rfl) (by kernel_rfl) (by kernel_rfl) (fun _ _ _ h => h) (by rfl) (fun w' hS => by clear hS; go_simp) hS ?_
  simp only [Act.put, List.setIfInBounds_toArray, List.set_cons_zero, List.set_cons_succ]
  refine takeY (i := 6) (some 50) (v := .pointer (some ⟨g0, 20, none⟩)) rfl rfl (by kernel_rfl) (by kernel_rfl) (by kernel_rfl) (fun _ _ _ h => h) (by rfl) (fun w' hS => by clear hS; go_simp) hS ?_
  simp only [Act.put, List.setIfInBounds_toArray, List.set_cons_zero, List.set_cons_succ]
  refine takeL (i := 8) (some 52) 32 (.tmp 4) N1 0 (pvC fam n z) _ rfl rfl (by kernel_rfl) (by kernel_rfl) (by kernel_rfl) (fun _ _ _ h => h) (by rfl) rfl rfl (fun w' hS => hS.1.all) Try.underlying32 rfl (hi_pv fam (n : Int) z) hS ?_
  simp only [Act.put, List.setIfInBounds_toArray, List.set_cons_zero, List.set_cons_succ]
  refine takeY (i := 9) (some 53) (v := .int .i64 v) rfl rfl (by kernel_rfl) (by kernel_rfl) (by kernel_rfl) (fun _ _ _ h => h) (by rfl) (fun w' hS => by clear hS; go_simp) hS ?_
  simp only [Act.put, List.setIfInBounds_toArray, List.set_cons_zero, List.set_cons_succ]
  refine takeY (i := 11) (some 55) (v := .pointer (some ⟨g0, 0, none⟩)) rfl rfl (by kernel_rfl) (by kernel_rfl) (by kernel_rfl) (fun _ _ _ h => h) (by rfl) (fun w' hS => by clear hS; go_simp) hS ?_
  simp only [Act.put, List.setIfInBounds_toArray, List.set_cons_zero, List.set_cons_succ]
  refine takeY (i := 12) (some 56) (v := .pointer (some ⟨g0, 20, none⟩)) rfl rfl (by kernel_rfl) (by kernel_rfl) (by kernel_rfl) (fun _ _ _ h => h) (by rfl) (fun w' hS => by clear hS; go_simp) hS ?_
  simp only [Act.put, List.setIfInBounds_toArray, List.set_cons_zero, List.set_cons_succ]
  refine takeV (i := 7) (some 51) (v := l.root) (w' := W5) rfl rfl (by kernel_rfl) (by rfl) (load_ptr _ _ _ rfl g0 20 rfl _ ((KN.out.cell 20).trans rfl)) hS ?_
  simp only [Act.put, List.setIfInBounds_toArray, List.set_cons_zero, List.set_cons_succ]
  refine takeCE (i := 10) (some 54) 44 #[l.root, .agg (pvC fam n z), .int .i64 v] (R := fun v w' => ∃ t2 : Ht, v = t2.root ∧ t2.At w' fam ∧ t2.bits = T ∧ Kp l.fp W5 w' ∧ (∀ k, k ∈ t2.fp → k ∈ l.fp ∨ W5.heap.size ≤ k) ∧ t2.fp.Nodup) rfl rfl (by kernel_rfl) (by rfl) (by go_simp) ((HREC.out W5 HL.out).mono (by rintro e w9 ⟨t2, rfl, h9⟩; exact ⟨_, rfl, t2, rfl, h9⟩)) (fun v w' h => by obtain ⟨t2, rfl, ha2, hb2, hk2, hi2, hd2⟩ := h; exact ⟨K4.out.kp hk2 (fun h => absurd (HLT.out _ h) (by omega)), HK.out.tr hk2 (fun x hx => .inl (List.mem_cons_of_mem _ hx))⟩) (fun v W6 h hS2 => ?_)
  obtain ⟨t2, rfl, ha2, hb2, hk2, hi2, hd2⟩ := h
  clear hS2
  simp only [Act.put, List.setIfInBounds_toArray, List.set_cons_zero, List.set_cons_succ]
  have HA2 := Lib.hid ha2
  have HB2 := Lib.hid hb2
  have HI2 : Hid (∀ k, k ∈ t2.fp → k ∈ l.fp ∨ w.heap.size ≤ k) := Lib.hid (fun k hk => (hi2 k hk).imp_right (fun h => Nat.le_trans HK.out.size h))
  have HD2 := Lib.hid hd2
  have HG2 : Hid (g0 ∉ t2.fp) := Lib.hid (fun h => (HI2.out g0 h).elim HG.out (fun h9 => absurd HG0.out (by omega)))
  clear ha2 hb2 hi2 hd2
  have KNn := Lib.hid (KN.out.kp hk2 HG.out)
  clear KN
  have KN := KNn
  clear KNn
  have K4n := Lib.hid (K4.out.kp hk2 (fun h => absurd (HLT.out _ h) (by omega)))
  clear K4
  have K4 := K4n
  clear K4n
  have HKn := Lib.hid (HK.out.tr hk2 (fun x hx => .inl (List.mem_cons_of_mem _ hx)))
  clear HK
  have HK := HKn
  clear HKn
  clear hS
  have hS := (And.intro K4.out HK.out)
  refine takeY (i := 13) (some 57) (v := .pointer (some ⟨g0, 20, none⟩)) rfl rfl (by kernel_rfl) (by kernel_rfl) (by kernel_rfl) (fun _ _ _ h => h) (by rfl) (fun w' hS => by clear hS; go_simp) hS ?_
  simp only [Act.put, List.setIfInBounds_toArray, List.set_cons_zero, List.set_cons_succ]
  refine takeSt (i := 14) 87 (.tmp 57) (.tmp 54) g0 20 (t2.root) (#[t2.root]) (ndC fam n' z' hb m t2.root r.root) rfl rfl (by kernel_rfl) (by rfl) rfl rfl rfl (root_cells _) info_p1 (one_root _) KN.out (Nat.le_of_ble_eq_true rfl) (nd_put20 _ _ _ _ _ _ _ _) ?_
  intro W7 q1
  refine ⟨⟨K4.out.far q1 (by omega), HK.out.st q1 (.inl (List.mem_cons_self ..))⟩, ?_⟩
  simp only [Act.put, List.setIfInBounds_toArray, List.set_cons_zero, List.set_cons_succ]
  have KNn : Hid (Blk 106 W7 g0 (ndC fam n' z' hb m t2.root r.root)) := Lib.hid q1.1
  clear KN
  have KN := KNn
  clear KNn
  have HA2n := Lib.hid (HA2.out.far q1 HG2.out)
  clear HA2
  have HA2 := HA2n
  clear HA2n
  have K4n := Lib.hid (K4.out.far q1 (by omega))
  clear K4
  have K4 := K4n
  clear K4n
  have HKn := Lib.hid (HK.out.st q1 (.inl (List.mem_cons_self ..)))
  clear HK
  have HK := HKn
  clear HKn
  clear q1 hS
  have hS := (And.intro K4.out HK.out)
  clear hS
  refine wpAnyH_done (by kernel_rfl) ?_ _
  go_wp2_with fail
  refine bodyPost_ret (v := .pointer (some ⟨g0, 0, none⟩)) (by simp [results, Try.f44, go_sem]) rfl ?_
  exact ⟨t2, rfl, KN.out, HA2.out, HB2.out, HK.out, HI2.out, HD2.out, HG2.out⟩
set_option maxHeartbeats 16000000 in
set_option maxRecDepth 100000 in
theorem with_side1 (g0 : Nat) (fam m v : Int) (n n' : Nat) (z z' : Nat → Int) (hb : Bool) (l r : Ht) (hz : Bytes z) (hz' : Bytes z') (hn : n ≤ 128) (he : ¬ ((n' : Int) = (n : Int) ∧ Same16 z' z)) (hc : btP n' z' <+: btP n z) (hlt : n' < n) (hsd : Tr.side (btP n z) n' = true) (T : Tr) (hrec : ∀ W, r.At W fam → Calls Try.prog 44 #[r.root, .agg (pvC fam n z), .int .i64 v] W (TreeP fam r.fp T W)) (w : World) (hk : Blk 106 w g0 (ndC fam n' z' hb m l.root r.root)) (hl : r.At w fam) (hg : g0 ∉ r.fp) :
    Calls Try.prog 44 #[.pointer (some ⟨g0, 0, none⟩), .agg (pvC fam n z), .int .i64 v] w fun e w' => ∃ t2 : Ht, e = .returned (.pointer (some ⟨g0, 0, none⟩)) ∧ Blk 106 w' g0 (ndC fam n' z' hb m l.root t2.root) ∧ t2.At w' fam ∧ t2.bits = T ∧ Kp (g0 :: r.fp) w w' ∧ (∀ k, k ∈ t2.fp → k ∈ r.fp ∨ w.heap.size ≤ k) ∧ t2.fp.Nodup ∧ g0 ∉ t2.fp := by
  have HZ := Lib.hid hz
  have HZ' := Lib.hid hz'
  have HE : Hid (∀ f, f = fam → decide (f = fam ∧ (n' : Int) = (n : Int) ∧ Same16 z' z) = false) := Lib.hid (fun f hf => decide_eq_false fun h => he h.2)
  have HC := Lib.hid (fun W hk => covers_nd g0 fam fam m n' n z' z hb l.root r.root hz' hz (by omega) hn W hk)
  rw [show decide (btP n' z' <+: btP n z) = true from decide_eq_true hc] at HC
  have HSD := Lib.hid (fun W hk => side_nd g0 fam fam m n' n z' z hb l.root r.root hz hlt hn W hk)
  rw [hsd] at HSD
  have HREC := Lib.hid hrec
  have HLT := Lib.hid hl.lt
  have HL := Lib.hid hl
  have HG := Lib.hid hg
  have KN := Lib.hid hk
  have HG0 := Lib.hid hk.lt
  clear hz hz' he hk hc hsd hrec hn hlt hl hg
  go_enter Try.func44, Try.ntmps44
  have HK := Lib.hid (Kp.refl (g0 :: r.fp) w)
  obtain ⟨N1, hN1⟩ : ∃ N, w.heap.size = N := ⟨_, rfl⟩
  have HN1 := Lib.hid hN1
  clear hN1
  go_wp2_with (refine wpList_box (op := ⟨some 4, _, _, _, _, _⟩) rfl 32 (.tmp 1) rfl (pvC fam n z) rfl N1 HN1.out ?_; intro w1 k1 b1 s1; refine Hid.out ?_)
  refine Lib.hid ?_
  have le_HK_N1 : w.heap.size ≤ N1 := by rw [← HN1.out]; exact HK.out.size
  have K4 := Lib.hid k1
  clear k1
  have lt_g0_N1 : g0 < N1 := by rw [← HN1.out]; exact KN.out.lt
  have KNn := Lib.hid (KN.out.below b1 KN.out.lt)
  clear KN
  have KN := KNn
  clear KNn
  have HLn := Lib.hid (HL.out.below b1 HL.out.lt)
  clear HL
  have HL := HLn
  clear HLn
  have HKn := Lib.hid (HK.out.tb b1)
  clear HK
  have HK := HKn
  clear HKn
  clear b1 HN1
  go_wp2_with fail
  have HLd := Lib.hid HL.out.drew
  clear HL
  refine wp_region_held_drew (S := fun w' => Blk 106 w' g0 (ndC fam n' z' hb m l.root r.root) ∧ Blk 32 w' N1 (pvC fam n z) ∧ Kp (g0 :: r.fp) w w') (by kernel_rfl) ⟨KN.out, K4.out, HK.out.drew⟩ (fun hS => ?_)
  generalize hW2 : w1.drew = W2 at hS HLd ⊢
  clear hW2
  clear KN
  clear K4
  clear HK
  have HL := HLd
  clear HLd
  have KN := Lib.hid hS.1
  have K4 := Lib.hid hS.2.1
  have HK := Lib.hid hS.2.2
  refine takeY (i := 0) (some 16) (v := .pointer (some ⟨g0, 0, none⟩)) rfl rfl (by kernel_rfl) (by kernel_rfl) (by kernel_rfl) (fun _ _ _ h => h) (by rfl) (fun w' hS => by clear hS; go_simp) hS ?_
  simp only [Act.put, List.setIfInBounds_toArray, List.set_cons_zero, List.set_cons_succ]
  refine takeY (i := 1) (some 17) (v := .pointer (some ⟨g0, 0, none⟩)) rfl rfl (by kernel_rfl) (by kernel_rfl) (by kernel_rfl) (fun _ _ _ h => h) (by rfl) (fun w' hS => by clear hS; go_simp) hS ?_
  simp only [Act.put, List.setIfInBounds_toArray, List.set_cons_zero, List.set_cons_succ]
  refine takeY (i := 2) (some 18) (v := .pointer (some ⟨g0, 0, none⟩)) rfl rfl (by kernel_rfl) (by kernel_rfl) (by kernel_rfl) (fun _ _ _ h => h) (by rfl) (fun w' hS => by clear hS; go_simp) hS ?_
  simp only [Act.put, List.setIfInBounds_toArray, List.set_cons_zero, List.set_cons_succ]
  refine takeL (i := 3) (some 19) 32 (.tmp 18) g0 0 (pvC fam n' z') _ rfl rfl (by kernel_rfl) (by kernel_rfl) (by kernel_rfl) (fun _ _ _ h => h) (by rfl) rfl rfl (fun w' hS => hS.1.ndpv) Try.underlying32 rfl (hi_pv fam (n' : Int) z') hS ?_
  simp only [Act.put, List.setIfInBounds_toArray, List.set_cons_zero, List.set_cons_succ]
  refine takeL (i := 4) (some 20) 32 (.tmp 4) N1 0 (pvC fam n z) _ rfl rfl (by kernel_rfl) (by kernel_rfl) (by kernel_rfl) (fun _ _ _ h => h) (by rfl) rfl rfl (fun w' hS => hS.2.1.all) Try.underlying32 rfl (hi_pv fam (n : Int) z) hS ?_
  simp only [Act.put, List.setIfInBounds_toArray, List.set_cons_zero, List.set_cons_succ]
  refine takeY (i := 5) (some 21) (v := .bool false) rfl rfl (by kernel_rfl) (by kernel_rfl) (by kernel_rfl) (fun _ _ _ h => h) (by rfl) (fun w' hS => by refine (eql_pv _ _ _ _ rfl fam (n' : Int) z' fam (n : Int) z HZ'.out HZ.out rfl rfl _).trans ?_; rw [HE.out fam rfl]) hS ?_
  simp only [Act.put, List.setIfInBounds_toArray, List.set_cons_zero, List.set_cons_succ]
  refine takeY (i := 6) (some 15) (v := .bool false) rfl rfl (by kernel_rfl) (by kernel_rfl) (by kernel_rfl) (fun _ _ _ h => h) (by rfl) (fun w' hS => by clear hS; go_simp) hS ?_
  simp only [Act.put, List.setIfInBounds_toArray, List.set_cons_zero, List.set_cons_succ]
  clear hS
  refine wpAnyH_done (by kernel_rfl) ?_ _
  go_wp2_with (refine wpList_ld (op := ⟨some 32, _, _, _, _, _⟩) (by rfl) 32 (.tmp 4) rfl N1 0 rfl (pvC fam n z) _ K4.out.all Try.underlying32 rfl (hi_pv fam (n : Int) z) ?_; refine Hid.out ?_)
  refine Lib.hid ?_
  go_wp2_with fail
  refine (HC.out _ KN.out).mono ?_
  rintro e w3 ⟨rfl, b1⟩
  have KNn := Lib.hid (KN.out.below b1 KN.out.lt)
  clear KN
  have KN := KNn
  clear KNn
  have K4n := Lib.hid (K4.out.below b1 K4.out.lt)
  clear K4
  have K4 := K4n
  clear K4n
  have HLn := Lib.hid (HL.out.below b1 HL.out.lt)
  clear HL
  have HL := HLn
  clear HLn
  have HKn := Lib.hid (HK.out.tb b1)
  clear HK
  have HK := HKn
  clear HKn
  clear b1
  go_wp2_with (refine wpList_ld (op := ⟨some 42, _, _, _, _, _⟩) (by rfl) 32 (.tmp 4) rfl N1 0 rfl (pvC fam n z) _ K4.out.all Try.underlying32 rfl (hi_pv fam (n : Int) z) ?_; refine Hid.out ?_)
  refine Lib.hid ?_
  go_wp2_with fail
  refine (HSD.out _ KN.out).mono ?_
  rintro e w4 ⟨rfl, b1⟩
  have KNn := Lib.hid (KN.out.below b1 KN.out.lt)
  clear KN
  have KN := KNn
  clear KNn
  have K4n := Lib.hid (K4.out.below b1 K4.out.lt)
  clear K4
  have K4 := K4n
  clear K4n
  have HLn := Lib.hid (HL.out.below b1 HL.out.lt)
  clear HL
  have HL := HLn
  clear HLn
  have HKn := Lib.hid (HK.out.tb b1)
  clear HK
  have HK := HKn
  clear HKn
  clear b1
  go_wp2_with fail
  have HLd := Lib.hid HL.out.drew
  clear HL
  have KNd := Lib.hid KN.out.drew
  clear KN
  refine wp_region_held_drew (S := fun w' => Blk 32 w' N1 (pvC fam n z) ∧ Kp (g0 :: r.fp) w w') (by kernel_rfl) ⟨K4.out, HK.out.drew⟩ (fun hS => ?_)
  generalize hW5 : w4.drew = W5 at hS HLd KNd ⊢
  clear hW5
  clear K4
  clear HK
  have HL := HLd
  clear HLd
  have KN := KNd
  clear KNd
  have K4 := Lib.hid hS.1
  have HK := Lib.hid hS.2
  refine takeY (i := 0) (some 44) (v := .pointer (some ⟨g0, 0, none⟩)) rfl rfl (by kernel_rfl) (by kernel_rfl) (by kernel_rfl) (fun _ _ _ h => h) (by rfl) (fun w' hS => by clear hS; go_simp) hS ?_
  simp only [Act.put, List.setIfInBounds_toArray, List.set_cons_zero, List.set_cons_succ]
  refine takeY (i := 1) (some 45) (v := .int .u8 1) rfl rfl (by kernel_rfl) (by kernel_rfl) (by kernel_rfl) (fun _ _ _ h => h) (by rfl) (fun w' hS => by clear hS; go_simp) hS ?_
  simp only [Act.put, List.setIfInBounds_toArray, List.set_cons_zero, List.set_cons_succ]
  refine takeY (i := 2) (some 46) (v := .pointer (some ⟨g0, 0, none⟩)) rfl rfl (by kernel_rfl) (by kernel_rfl) (by kernel_rfl) (fun _ _ _ h => h) (by rfl) (fun w' hS => by clear hS; go_simp) hS ?_
  simp only [Act.put, List.setIfInBounds_toArray, List.set_cons_zero, List.set_cons_succ]
  refine takeY (i := 3) (some 47) (v := .int .u8 1) rfl rfl (by kernel_rfl) (by kernel_rfl) (by kernel_rfl) (fun _ _ _ h => h) (by rfl) (fun w' hS => by clear hS; go_simp) hS ?_
  simp only [Act.put, List.setIfInBounds_toArray, List.set_cons_zero, List.set_cons_succ]
  refine takeY (i := 4) (some 48) (v := .pointer (some ⟨g0, 0, none⟩)) rfl rfl (by kernel_rfl) (by kernel_rfl) (by kernel_rfl) (fun _ _ _ h => h) (by rfl) (fun w' hS => by clear hS; go_simp) hS ?_
  simp only [Act.put, List.setIfInBounds_toArray, List.set_cons_zero, List.set_cons_succ]
  refine takeY (i := 5) (some 49) (v := .pointer (some ⟨g0, 20, none⟩)) rfl rfl (by kernel_rfl) (by kernel_rfl) (by kernel_rfl) (fun _ _ _ h => h) (by rfl) (fun w' hS => by clear hS; go_simp) hS ?_
  simp only [Act.put, List.setIfInBounds_toArray, List.set_cons_zero, List.set_cons_succ]
  refine takeY (i := 6) (some 50) (v := .pointer (some ⟨g0, 21, none⟩)) rfl rfl (by kernel_rfl) (by kernel_rfl) (by kernel_rfl) (fun _ _ _ h => h) (by rfl) (fun w' hS => by clear hS; go_simp) hS ?_
  simp only [Act.put, List.setIfInBounds_toArray, List.set_cons_zero, List.set_cons_succ]
  refine takeL (i := 8) (some 52) 32 (.tmp 4) N1 0 (pvC fam n z) _ rfl rfl (by kernel_rfl) (by kernel_rfl) (by kernel_rfl) (fun _ _ _ h => h) (by rfl) rfl rfl (fun w' hS => hS.1.all) Try.underlying32 rfl (hi_pv fam (n : Int) z) hS ?_
  simp only [Act.put, List.setIfInBounds_toArray, List.set_cons_zero, List.set_cons_succ]
  refine takeY (i := 9) (some 53) (v := .int .i64 v) rfl rfl (by kernel_rfl) (by kernel_rfl) (by kernel_rfl) (fun _ _ _ h => h) (by rfl) (fun w' hS => by clear hS; go_simp) hS ?_
  simp only [Act.put, List.setIfInBounds_toArray, List.set_cons_zero, List.set_cons_succ]
  refine takeY (i := 11) (some 55) (v := .pointer (some ⟨g0, 0, none⟩)) rfl rfl (by kernel_rfl) (by kernel_rfl) (by kernel_rfl) (fun _ _ _ h => h) (by rfl) (fun w' hS => by clear hS; go_simp) hS ?_
  simp only [Act.put, List.setIfInBounds_toArray, List.set_cons_zero, List.set_cons_succ]
  refine takeY (i := 12) (some 56) (v := .pointer (some ⟨g0, 20, none⟩)) rfl rfl (by kernel_rfl) (by kernel_rfl) (by kernel_rfl) (fun _ _ _ h => h) (by rfl) (fun w' hS => by clear hS; go_simp) hS ?_
  simp only [Act.put, List.setIfInBounds_toArray, List.set_cons_zero, List.set_cons_succ]
  refine takeV (i := 7) (some 51) (v := r.root) (w' := W5) rfl rfl (by kernel_rfl) (by rfl) (load_ptr _ _ _ rfl g0 21 rfl _ ((KN.out.cell 21).trans rfl)) hS ?_
  simp only [Act.put, List.setIfInBounds_toArray, List.set_cons_zero, List.set_cons_succ]
  refine takeCE (i := 10) (some 54) 44 #[r.root, .agg (pvC fam n z), .int .i64 v] (R := fun v w' => ∃ t2 : Ht, v = t2.root ∧ t2.At w' fam ∧ t2.bits = T ∧ Kp r.fp W5 w' ∧ (∀ k, k ∈ t2.fp → k ∈ r.fp ∨ W5.heap.size ≤ k) ∧ t2.fp.Nodup) rfl rfl (by kernel_rfl) (by rfl) (by go_simp) ((HREC.out W5 HL.out).mono (by rintro e w9 ⟨t2, rfl, h9⟩; exact ⟨_, rfl, t2, rfl, h9⟩)) (fun v w' h => by obtain ⟨t2, rfl, ha2, hb2, hk2, hi2, hd2⟩ := h; exact ⟨K4.out.kp hk2 (fun h => absurd (HLT.out _ h) (by omega)), HK.out.tr hk2 (fun x hx => .inl (List.mem_cons_of_mem _ hx))⟩) (fun v W6 h hS2 => ?_)
  obtain ⟨t2, rfl, ha2, hb2, hk2, hi2, hd2⟩ := h
  clear hS2
  simp only [Act.put, List.setIfInBounds_toArray, List.set_cons_zero, List.set_cons_succ]
  have HA2 := Lib.hid ha2
  have HB2 := Lib.hid hb2
  have HI2 : Hid (∀ k, k ∈ t2.fp → k ∈ r.fp ∨ w.heap.size ≤ k) := Lib.hid (fun k hk => (hi2 k hk).imp_right (fun h => Nat.le_trans HK.out.size h))
  have HD2 := Lib.hid hd2
  have HG2 : Hid (g0 ∉ t2.fp) := Lib.hid (fun h => (HI2.out g0 h).elim HG.out (fun h9 => absurd HG0.out (by omega)))
  clear ha2 hb2 hi2 hd2
  have KNn := Lib.hid (KN.out.kp hk2 HG.out)
  clear KN
  have KN := KNn
  clear KNn
  have K4n := Lib.hid (K4.out.kp hk2 (fun h => absurd (HLT.out _ h) (by omega)))
  clear K4
  have K4 := K4n
  clear K4n
  have HKn := Lib.hid (HK.out.tr hk2 (fun x hx => .inl (List.mem_cons_of_mem _ hx)))
  clear HK
  have HK := HKn
  clear HKn
  clear hS
  have hS := (And.intro K4.out HK.out)
  refine takeY (i := 13) (some 57) (v := .pointer (some ⟨g0, 21, none⟩)) rfl rfl (by kernel_rfl) (by kernel_rfl) (by kernel_rfl) (fun _ _ _ h => h) (by rfl) (fun w' hS => by clear hS; go_simp) hS ?_
  simp only [Act.put, List.setIfInBounds_toArray, List.set_cons_zero, List.set_cons_succ]
  refine takeSt (i := 14) 87 (.tmp 57) (.tmp 54) g0 21 (t2.root) (#[t2.root]) (ndC fam n' z' hb m l.root t2.root) rfl rfl (by kernel_rfl) (by rfl) rfl rfl rfl (root_cells _) info_p1 (one_root _) KN.out (Nat.le_of_ble_eq_true rfl) (nd_put21 _ _ _ _ _ _ _ _) ?_
  intro W7 q1
  refine ⟨⟨K4.out.far q1 (by omega), HK.out.st q1 (.inl (List.mem_cons_self ..))⟩, ?_⟩
  simp only [Act.put, List.setIfInBounds_toArray, List.set_cons_zero, List.set_cons_succ]
  have KNn : Hid (Blk 106 W7 g0 (ndC fam n' z' hb m l.root t2.root)) := Lib.hid q1.1
  clear KN
  have KN := KNn
  clear KNn
  have HA2n := Lib.hid (HA2.out.far q1 HG2.out)
  clear HA2
  have HA2 := HA2n
  clear HA2n
  have K4n := Lib.hid (K4.out.far q1 (by omega))
  clear K4
  have K4 := K4n
  clear K4n
  have HKn := Lib.hid (HK.out.st q1 (.inl (List.mem_cons_self ..)))
  clear HK
  have HK := HKn
  clear HKn
  clear q1 hS
  have hS := (And.intro K4.out HK.out)
  clear hS
  refine wpAnyH_done (by kernel_rfl) ?_ _
  go_wp2_with fail
  refine bodyPost_ret (v := .pointer (some ⟨g0, 0, none⟩)) (by simp [results, Try.f44, go_sem]) rfl ?_
  exact ⟨t2, rfl, KN.out, HA2.out, HB2.out, HK.out, HI2.out, HD2.out, HG2.out⟩
set_option maxHeartbeats 16000000 in
set_option maxRecDepth 100000 in
theorem fork_0 (g0 : Nat) (fam m : Int) (n n' L : Nat) (z z' : Nat → Int) (hb : Bool) (a b : Value) (hz : Bytes z) (hz' : Bytes z') (hs : Sized fam n) (hn : n ≤ 128) (hn' : n' ≤ 128) (hL : Tr.lcp (btP n' z') (btP n z) = L) (hlt : L < n') (hsd : Tr.side (btP n' z') L = false) (w : World) (hk : Blk 106 w g0 (ndC fam n' z' hb m a b)) :
    Calls Try.prog 73 #[.pointer (some ⟨g0, 0, none⟩), .agg (pvC fam n z)] w fun e w' => ∃ gA, e = .returned (.pointer (some ⟨gA, 0, none⟩)) ∧ w.heap.size ≤ gA ∧ Blk 106 w' gA (ndC fam L (firstZ z L) false 0 (.pointer (some ⟨g0, 0, none⟩)) (.pointer none)) ∧ Below w.heap.size w w' := by
  have HSM := Lib.hid (same_bit fam fam n' n z' z hz' hz hn' hn)
  rw [hL] at HSM
  have hLn : L ≤ n := by rw [← hL]; exact Nat.le_trans (Tr.lcp_le_right _ _) (by rw [btP_len]; exact Nat.le_refl _)
  have HCU := Lib.hid (fun W => cut_ok fam n L z W hz hLn hs)
  have HSD := Lib.hid (fun gA a b W hk => side_nd gA fam fam 0 L n' (firstZ z L) z' false a b hz' hlt hn' W hk)
  rw [hsd] at HSD
  have KN := Lib.hid hk
  clear hz hz' hs hn hn' hL hlt hsd hk hLn
  go_enter Try.func73, Try.ntmps73
  have HB := Lib.hid (Below.refl w.heap.size w)
  obtain ⟨N1, hN1⟩ : ∃ N, w.heap.size = N := ⟨_, rfl⟩
  have HN1 := Lib.hid hN1
  clear hN1
  go_wp2_with (refine wpList_box (op := ⟨some 3, _, _, _, _, _⟩) rfl 32 (.tmp 1) rfl (pvC fam n z) rfl N1 HN1.out ?_; intro w1 k1 b1 s1; refine Hid.out ?_)
  refine Lib.hid ?_
  have K3 := Lib.hid k1
  clear k1
  have lt_g0_N1 : g0 < N1 := by rw [← HN1.out]; exact KN.out.lt
  have le_HB_N1 : w.heap.size ≤ N1 := by rw [← HN1.out]; exact HB.out.size
  have KNn := Lib.hid (KN.out.below b1 KN.out.lt)
  clear KN
  have KN := KNn
  clear KNn
  have HBn := Lib.hid (HB.out.trans (b1.mono HB.out.size))
  clear HB
  have HB := HBn
  clear HBn
  clear b1 HN1
  go_wp2_with fail
  refine wp_region_held_drew (S := fun w' => Blk 106 w' g0 (ndC fam n' z' hb m a b) ∧ Blk 32 w' N1 (pvC fam n z) ∧ Below w.heap.size w w') (by kernel_rfl) ⟨KN.out, K3.out, HB.out.drew⟩ (fun hS => ?_)
  generalize hW2 : w1.drew = W2 at hS  ⊢
  clear hW2
  clear KN
  clear K3
  clear HB
  have KN := Lib.hid hS.1
  have K3 := Lib.hid hS.2.1
  have HB := Lib.hid hS.2.2
  refine takeL (i := 0) (some 9) 32 (.tmp 3) N1 0 (pvC fam n z) _ rfl rfl (by kernel_rfl) (by kernel_rfl) (by kernel_rfl) (fun _ _ _ h => h) (by rfl) rfl rfl (fun w' hS => hS.2.1.all) Try.underlying32 rfl (hi_pv fam (n : Int) z) hS ?_
  simp only [Act.put, List.setIfInBounds_toArray, List.set_cons_zero, List.set_cons_succ]
  refine takeY (i := 1) (some 10) (v := .pointer (some ⟨g0, 0, none⟩)) rfl rfl (by kernel_rfl) (by kernel_rfl) (by kernel_rfl) (fun _ _ _ h => h) (by rfl) (fun w' hS => by clear hS; go_simp) hS ?_
  simp only [Act.put, List.setIfInBounds_toArray, List.set_cons_zero, List.set_cons_succ]
  refine takeY (i := 2) (some 11) (v := .pointer (some ⟨g0, 0, none⟩)) rfl rfl (by kernel_rfl) (by kernel_rfl) (by kernel_rfl) (fun _ _ _ h => h) (by rfl) (fun w' hS => by clear hS; go_simp) hS ?_
  simp only [Act.put, List.setIfInBounds_toArray, List.set_cons_zero, List.set_cons_succ]
  refine takeY (i := 3) (some 12) (v := .pointer (some ⟨g0, 0, none⟩)) rfl rfl (by kernel_rfl) (by kernel_rfl) (by kernel_rfl) (fun _ _ _ h => h) (by rfl) (fun w' hS => by clear hS; go_simp) hS ?_
  simp only [Act.put, List.setIfInBounds_toArray, List.set_cons_zero, List.set_cons_succ]
  refine takeL (i := 4) (some 13) 32 (.tmp 12) g0 0 (pvC fam n' z') _ rfl rfl (by kernel_rfl) (by kernel_rfl) (by kernel_rfl) (fun _ _ _ h => h) (by rfl) rfl rfl (fun w' hS => hS.1.ndpv) Try.underlying32 rfl (hi_pv fam (n' : Int) z') hS ?_
  simp only [Act.put, List.setIfInBounds_toArray, List.set_cons_zero, List.set_cons_succ]
  refine takeL (i := 5) (some 14) 32 (.tmp 3) N1 0 (pvC fam n z) _ rfl rfl (by kernel_rfl) (by kernel_rfl) (by kernel_rfl) (fun _ _ _ h => h) (by rfl) rfl rfl (fun w' hS => hS.2.1.all) Try.underlying32 rfl (hi_pv fam (n : Int) z) hS ?_
  simp only [Act.put, List.setIfInBounds_toArray, List.set_cons_zero, List.set_cons_succ]
  obtain ⟨M0, hM0⟩ : ∃ N, W2.heap.size = N := ⟨_, rfl⟩
  have HM0 := Lib.hid hM0
  clear hM0
  refine wpAnyH_ready (show Region.ready _ _ _ = [6, 11] from by kernel_rfl) (by simp) (consC (i := 6) (some 15) 83 #[.agg (pvC fam n' z'), .agg (pvC fam n z)] (.int .i64 (L : Int)) (R := fun w' => Below W2.heap.size W2 w') rfl rfl (by rfl) (by go_simp) (HSM.out _) (fun w' hb => ⟨hS.1.below hb hS.1.lt, hS.2.1.below hb hS.2.1.lt, hS.2.2.trans (hb.mono hS.2.2.size)⟩) ?_ (consMk (i := 11) (some 5) 32 (pvC 0 0 Z0) rfl rfl (by rfl) rfl zero_pvT M0 HM0.out ?_ AllReadyH.nil))
  · skip
    clear HM0
    intro W3 hb1 hS2
    simp only [Act.put, List.setIfInBounds_toArray, List.set_cons_zero, List.set_cons_succ]
    clear KN
    clear K3
    clear HB
    clear hS
    have hS := hS2
    clear hS2
    have KN := Lib.hid hS.1
    have K3 := Lib.hid hS.2.1
    have HB := Lib.hid hS.2.2
    clear hb1
    obtain ⟨M1, hM1⟩ : ∃ N, W3.heap.size = N := ⟨_, rfl⟩
    have HM1 := Lib.hid hM1
    clear hM1
    refine wpAnyH_ready (show Region.ready _ _ _ = [7, 11] from by kernel_rfl) (by simp) (consC (i := 7) (some 16) 24 #[.agg (pvC fam n z), .int .i64 (L : Int)] (.tuple #[.agg (pvC fam (L : Int) (firstZ z L)), .int .i64 0]) (R := fun w' => Below W3.heap.size W3 w') rfl rfl (by rfl) (by go_simp) (HCU.out _) (fun w' hb => ⟨hS.1.below hb hS.1.lt, hS.2.1.below hb hS.2.1.lt, hS.2.2.trans (hb.mono hS.2.2.size)⟩) ?_ (consMk (i := 11) (some 5) 32 (pvC 0 0 Z0) rfl rfl (by rfl) rfl zero_pvT M1 HM1.out ?_ AllReadyH.nil))
    · skip
      clear HM1
      intro W4 hb1 hS2
      simp only [Act.put, List.setIfInBounds_toArray, List.set_cons_zero, List.set_cons_succ]
      clear KN
      clear K3
      clear HB
      clear hS
      have hS := hS2
      clear hS2
      have KN := Lib.hid hS.1
      have K3 := Lib.hid hS.2.1
      have HB := Lib.hid hS.2.2
      clear hb1
      obtain ⟨M2, hM2⟩ : ∃ N, W4.heap.size = N := ⟨_, rfl⟩
      have HM2 := Lib.hid hM2
      clear hM2
      refine takeY (i := 8) (some 8) (v := .tuple #[.agg (pvC fam (L : Int) (firstZ z L)), .int .i64 0]) rfl rfl (by kernel_rfl) (by kernel_rfl) (by kernel_rfl) (fun _ _ _ h => h) (by rfl) (fun w' hS => by go_simp) hS ?_
      simp only [Act.put, List.setIfInBounds_toArray, List.set_cons_zero, List.set_cons_succ]
      refine takeY (i := 9) (some 17) (v := .agg (pvC fam (L : Int) (firstZ z L))) rfl rfl (by kernel_rfl) (by kernel_rfl) (by kernel_rfl) (fun _ _ _ h => h) (by rfl) (fun w' hS => by go_simp) hS ?_
      simp only [Act.put, List.setIfInBounds_toArray, List.set_cons_zero, List.set_cons_succ]
      refine takeY (i := 10) (some 18) (v := .int .i64 0) rfl rfl (by kernel_rfl) (by kernel_rfl) (by kernel_rfl) (fun _ _ _ h => h) (by rfl) (fun w' hS => by go_simp) hS ?_
      simp only [Act.put, List.setIfInBounds_toArray, List.set_cons_zero, List.set_cons_succ]
      refine takeMk (i := 11) (some 5) 32 (pvC 0 0 Z0) rfl rfl (by kernel_rfl) (by rfl) rfl zero_pvT M2 HM2.out ?_
      intro W5 k1 b1 s1
      refine ⟨⟨hS.1.below b1 hS.1.lt, hS.2.1.below b1 hS.2.1.lt, hS.2.2.trans (b1.mono hS.2.2.size)⟩, ?_⟩
      simp only [Act.put, List.setIfInBounds_toArray, List.set_cons_zero, List.set_cons_succ]
      have K5 := Lib.hid k1
      clear k1
      have lt_g0_M2 : g0 < M2 := by rw [← HM2.out]; exact KN.out.lt
      have lt_N1_M2 : N1 < M2 := by rw [← HM2.out]; exact K3.out.lt
      have le_HB_M2 : w.heap.size ≤ M2 := by rw [← HM2.out]; exact HB.out.size
      have KNn := Lib.hid (KN.out.below b1 KN.out.lt)
      clear KN
      have KN := KNn
      clear KNn
      have K3n := Lib.hid (K3.out.below b1 K3.out.lt)
      clear K3
      have K3 := K3n
      clear K3n
      have HBn := Lib.hid (HB.out.trans (b1.mono HB.out.size))
      clear HB
      have HB := HBn
      clear HBn
      clear b1 HM2 hS
      have hS := (And.intro KN.out (And.intro K3.out HB.out))
      refine takeSt (i := 12) 32 (.tmp 5) (.tmp 17) M2 0 (.agg (pvC fam (L : Int) (firstZ z L))) (pvC fam (L : Int) (firstZ z L)) (pvC fam (L : Int) (firstZ z L)) rfl rfl (by kernel_rfl) (by rfl) rfl rfl rfl rfl info_pv (all_pv _ _ _) K5.out (Nat.le_of_ble_eq_true rfl) (pv_over _ _ _ _ _ _) ?_
      intro W6 q1
      refine ⟨⟨KN.out.far q1 (by omega), K3.out.far q1 (by omega), HB.out.trans (q1.2.1 _ (by omega))⟩, ?_⟩
      simp only [Act.put, List.setIfInBounds_toArray, List.set_cons_zero, List.set_cons_succ]
      have K5n : Hid (Blk 32 W6 M2 (pvC fam (L : Int) (firstZ z L))) := Lib.hid q1.1
      clear K5
      have K5 := K5n
      clear K5n
      have KNn := Lib.hid (KN.out.far q1 (by omega))
      clear KN
      have KN := KNn
      clear KNn
      have K3n := Lib.hid (K3.out.far q1 (by omega))
      clear K3
      have K3 := K3n
      clear K3n
      have HBn := Lib.hid (HB.out.trans (q1.2.1 _ (by omega)))
      clear HB
      have HB := HBn
      clear HBn
      clear q1 hS
      have hS := (And.intro KN.out (And.intro K3.out HB.out))
      refine takeY (i := 13) (some 6) (v := .int .i64 0) rfl rfl (by kernel_rfl) (by kernel_rfl) (by kernel_rfl) (fun _ _ _ h => h) (by rfl) (fun w' hS => by go_simp) hS ?_
      simp only [Act.put, List.setIfInBounds_toArray, List.set_cons_zero, List.set_cons_succ]
      clear hS
      refine wpAnyH_done (by kernel_rfl) ?_ _
      go_wp2_with (refine wpList_ld (op := ⟨some 19, _, _, _, _, _⟩) (by rfl) 32 (.tmp 5) rfl M2 0 rfl (pvC fam (L : Int) (firstZ z L)) _ K5.out.all Try.underlying32 rfl (hi_pv fam (L : Int) (firstZ z L)) ?_; refine Hid.out ?_)
      refine Lib.hid ?_
      go_wp2_with (refine wpList_v (op := ⟨some 20, _, _, _, _, _⟩) rfl (.agg (ndC fam L (firstZ z L) false 0 (.pointer none) (.pointer none))) (build_nd0 _ _ _ rfl fam L (firstZ z L) rfl _) ?_; refine Hid.out ?_)
      refine Lib.hid ?_
      obtain ⟨N7, hN7⟩ : ∃ N, W6.heap.size = N := ⟨_, rfl⟩
      have HN7 := Lib.hid hN7
      clear hN7
      go_wp2_with (refine wpList_box (op := ⟨some 21, _, _, _, _, _⟩) rfl 106 (.tmp 20) rfl (ndC fam L (firstZ z L) false 0 (.pointer none) (.pointer none)) rfl N7 HN7.out ?_; intro w7 k1 b1 s1; refine Hid.out ?_)
      refine Lib.hid ?_
      have KA := Lib.hid k1
      clear k1
      have lt_g0_N7 : g0 < N7 := by rw [← HN7.out]; exact KN.out.lt
      have lt_N1_N7 : N1 < N7 := by rw [← HN7.out]; exact K3.out.lt
      have lt_M2_N7 : M2 < N7 := by rw [← HN7.out]; exact K5.out.lt
      have le_HB_N7 : w.heap.size ≤ N7 := by rw [← HN7.out]; exact HB.out.size
      have KNn := Lib.hid (KN.out.below b1 KN.out.lt)
      clear KN
      have KN := KNn
      clear KNn
      have K3n := Lib.hid (K3.out.below b1 K3.out.lt)
      clear K3
      have K3 := K3n
      clear K3n
      have K5n := Lib.hid (K5.out.below b1 K5.out.lt)
      clear K5
      have K5 := K5n
      clear K5n
      have HBn := Lib.hid (HB.out.trans (b1.mono HB.out.size))
      clear HB
      have HB := HBn
      clear HBn
      clear b1 HN7
      go_wp2_with fail
      have KAd := Lib.hid KA.out.drew
      clear KA
      refine wp_region_held_drew (S := fun w' => Blk 106 w' g0 (ndC fam n' z' hb m a b) ∧ Blk 32 w' N1 (pvC fam n z) ∧ Blk 32 w' M2 (pvC fam (L : Int) (firstZ z L)) ∧ Below w.heap.size w w') (by kernel_rfl) ⟨KN.out, K3.out, K5.out, HB.out.drew⟩ (fun hS => ?_)
      generalize hW8 : w7.drew = W8 at hS KAd ⊢
      clear hW8
      clear KN
      clear K3
      clear K5
      clear HB
      have KA := KAd
      clear KAd
      have KN := Lib.hid hS.1
      have K3 := Lib.hid hS.2.1
      have K5 := Lib.hid hS.2.2.1
      have HB := Lib.hid hS.2.2.2
      refine takeY (i := 0) (some 22) (v := .pointer (some ⟨N7, 0, none⟩)) rfl rfl (by kernel_rfl) (by kernel_rfl) (by kernel_rfl) (fun _ _ _ h => h) (by rfl) (fun w' hS => by clear hS; go_simp) hS ?_
      simp only [Act.put, List.setIfInBounds_toArray, List.set_cons_zero, List.set_cons_succ]
      refine takeY (i := 1) (some 23) (v := .pointer (some ⟨N7, 0, none⟩)) rfl rfl (by kernel_rfl) (by kernel_rfl) (by kernel_rfl) (fun _ _ _ h => h) (by rfl) (fun w' hS => by clear hS; go_simp) hS ?_
      simp only [Act.put, List.setIfInBounds_toArray, List.set_cons_zero, List.set_cons_succ]
      refine takeY (i := 2) (some 24) (v := .pointer (some ⟨g0, 0, none⟩)) rfl rfl (by kernel_rfl) (by kernel_rfl) (by kernel_rfl) (fun _ _ _ h => h) (by rfl) (fun w' hS => by clear hS; go_simp) hS ?_
      simp only [Act.put, List.setIfInBounds_toArray, List.set_cons_zero, List.set_cons_succ]
      refine takeY (i := 3) (some 25) (v := .pointer (some ⟨g0, 0, none⟩)) rfl rfl (by kernel_rfl) (by kernel_rfl) (by kernel_rfl) (fun _ _ _ h => h) (by rfl) (fun w' hS => by clear hS; go_simp) hS ?_
      simp only [Act.put, List.setIfInBounds_toArray, List.set_cons_zero, List.set_cons_succ]
      refine takeY (i := 4) (some 26) (v := .pointer (some ⟨g0, 0, none⟩)) rfl rfl (by kernel_rfl) (by kernel_rfl) (by kernel_rfl) (fun _ _ _ h => h) (by rfl) (fun w' hS => by clear hS; go_simp) hS ?_
      simp only [Act.put, List.setIfInBounds_toArray, List.set_cons_zero, List.set_cons_succ]
      refine takeL (i := 5) (some 27) 32 (.tmp 26) g0 0 (pvC fam n' z') _ rfl rfl (by kernel_rfl) (by kernel_rfl) (by kernel_rfl) (fun _ _ _ h => h) (by rfl) rfl rfl (fun w' hS => hS.1.ndpv) Try.underlying32 rfl (hi_pv fam (n' : Int) z') hS ?_
      simp only [Act.put, List.setIfInBounds_toArray, List.set_cons_zero, List.set_cons_succ]
      refine takeY (i := 7) (some 29) (v := .pointer (some ⟨g0, 0, none⟩)) rfl rfl (by kernel_rfl) (by kernel_rfl) (by kernel_rfl) (fun _ _ _ h => h) (by rfl) (fun w' hS => by clear hS; go_simp) hS ?_
      simp only [Act.put, List.setIfInBounds_toArray, List.set_cons_zero, List.set_cons_succ]
      refine takeY (i := 8) (some 30) (v := .pointer (some ⟨N7, 0, none⟩)) rfl rfl (by kernel_rfl) (by kernel_rfl) (by kernel_rfl) (fun _ _ _ h => h) (by rfl) (fun w' hS => by clear hS; go_simp) hS ?_
      simp only [Act.put, List.setIfInBounds_toArray, List.set_cons_zero, List.set_cons_succ]
      refine takeY (i := 9) (some 31) (v := .pointer (some ⟨N7, 20, none⟩)) rfl rfl (by kernel_rfl) (by kernel_rfl) (by kernel_rfl) (fun _ _ _ h => h) (by rfl) (fun w' hS => by clear hS; go_simp) hS ?_
      simp only [Act.put, List.setIfInBounds_toArray, List.set_cons_zero, List.set_cons_succ]
      refine takeC (i := 6) (some 28) 74 #[.pointer (some ⟨N7, 0, none⟩), .agg (pvC fam n' z')] (.int .u8 0) (R := fun w' => Below W8.heap.size W8 w') rfl rfl (by kernel_rfl) (by rfl) (by go_simp) (HSD.out N7 _ _ _ KA.out) (fun w' hb => ⟨hS.1.below hb hS.1.lt, hS.2.1.below hb hS.2.1.lt, hS.2.2.1.below hb hS.2.2.1.lt, hS.2.2.2.trans (hb.mono hS.2.2.2.size)⟩) (fun W9 hb1 hS2 => ?_)
      simp only [Act.put, List.setIfInBounds_toArray, List.set_cons_zero, List.set_cons_succ]
      have KAn := Lib.hid (KA.out.below hb1 KA.out.lt)
      clear KA
      have KA := KAn
      clear KAn
      clear KN
      clear K3
      clear K5
      clear HB
      clear hS hb1
      have hS := hS2
      clear hS2
      have KN := Lib.hid hS.1
      have K3 := Lib.hid hS.2.1
      have K5 := Lib.hid hS.2.2.1
      have HB := Lib.hid hS.2.2.2
      refine takeY (i := 10) (some 32) (v := .pointer (some ⟨N7, 20, none⟩)) rfl rfl (by kernel_rfl) (by kernel_rfl) (by kernel_rfl) (fun _ _ _ h => h) (by rfl) (fun w' hS => by clear hS; go_simp) hS ?_
      simp only [Act.put, List.setIfInBounds_toArray, List.set_cons_zero, List.set_cons_succ]
      refine takeSt (i := 11) 87 (.tmp 32) (.tmp 29) N7 20 (.pointer (some ⟨g0, 0, none⟩)) (#[.pointer (some ⟨g0, 0, none⟩)]) (ndC fam L (firstZ z L) false 0 (.pointer (some ⟨g0, 0, none⟩)) (.pointer none)) rfl rfl (by kernel_rfl) (by rfl) rfl rfl rfl rfl info_p1 (by kernel_rfl) KA.out (Nat.le_of_ble_eq_true rfl) (nd_put20 _ _ _ _ _ _ _ _) ?_
      intro W10 q1
      refine ⟨⟨KN.out.far q1 (by omega), K3.out.far q1 (by omega), K5.out.far q1 (by omega), HB.out.trans (q1.2.1 _ (by omega))⟩, ?_⟩
      simp only [Act.put, List.setIfInBounds_toArray, List.set_cons_zero, List.set_cons_succ]
      have KAn : Hid (Blk 106 W10 N7 (ndC fam L (firstZ z L) false 0 (.pointer (some ⟨g0, 0, none⟩)) (.pointer none))) := Lib.hid q1.1
      clear KA
      have KA := KAn
      clear KAn
      have KNn := Lib.hid (KN.out.far q1 (by omega))
      clear KN
      have KN := KNn
      clear KNn
      have K3n := Lib.hid (K3.out.far q1 (by omega))
      clear K3
      have K3 := K3n
      clear K3n
      have K5n := Lib.hid (K5.out.far q1 (by omega))
      clear K5
      have K5 := K5n
      clear K5n
      have HBn := Lib.hid (HB.out.trans (q1.2.1 _ (by omega)))
      clear HB
      have HB := HBn
      clear HBn
      clear q1 hS
      have hS := (And.intro KN.out (And.intro K3.out (And.intro K5.out HB.out)))
      clear hS
      refine wpAnyH_done (by kernel_rfl) ?_ _
      go_wp2_with fail
      refine bodyPost_ret (v := .pointer (some ⟨N7, 0, none⟩)) (by simp [results, Try.f73, go_sem]) rfl ?_
      exact ⟨N7, rfl, le_HB_N7, KA.out, HB.out⟩
    · skip
      intro W5 k1 b1 s1
      refine ⟨⟨hS.1.below b1 hS.1.lt, hS.2.1.below b1 hS.2.1.lt, hS.2.2.trans (b1.mono hS.2.2.size)⟩, ?_⟩
      simp only [Act.put, List.setIfInBounds_toArray, List.set_cons_zero, List.set_cons_succ]
      have K5 := Lib.hid k1
      clear k1
      have lt_g0_M1 : g0 < M1 := by rw [← HM1.out]; exact KN.out.lt
      have lt_N1_M1 : N1 < M1 := by rw [← HM1.out]; exact K3.out.lt
      have le_HB_M1 : w.heap.size ≤ M1 := by rw [← HM1.out]; exact HB.out.size
      have KNn := Lib.hid (KN.out.below b1 KN.out.lt)
      clear KN
      have KN := KNn
      clear KNn
      have K3n := Lib.hid (K3.out.below b1 K3.out.lt)
      clear K3
      have K3 := K3n
      clear K3n
      have HBn := Lib.hid (HB.out.trans (b1.mono HB.out.size))
      clear HB
      have HB := HBn
      clear HBn
      clear b1 HM1 hS
      have hS := (And.intro KN.out (And.intro K3.out HB.out))
      refine takeC (i := 7) (some 16) 24 #[.agg (pvC fam n z), .int .i64 (L : Int)] (.tuple #[.agg (pvC fam (L : Int) (firstZ z L)), .int .i64 0]) (R := fun w' => Below W5.heap.size W5 w') rfl rfl (by kernel_rfl) (by rfl) (by go_simp) (HCU.out _) (fun w' hb => ⟨hS.1.below hb hS.1.lt, hS.2.1.below hb hS.2.1.lt, hS.2.2.trans (hb.mono hS.2.2.size)⟩) ?_
      intro W6 hb1 hS2
      simp only [Act.put, List.setIfInBounds_toArray, List.set_cons_zero, List.set_cons_succ]
      have K5n := Lib.hid (K5.out.below hb1 K5.out.lt)
      clear K5
      have K5 := K5n
      clear K5n
      clear KN
      clear K3
      clear HB
      clear hS
      have hS := hS2
      clear hS2
      have KN := Lib.hid hS.1
      have K3 := Lib.hid hS.2.1
      have HB := Lib.hid hS.2.2
      clear hb1
      refine takeY (i := 8) (some 8) (v := .tuple #[.agg (pvC fam (L : Int) (firstZ z L)), .int .i64 0]) rfl rfl (by kernel_rfl) (by kernel_rfl) (by kernel_rfl) (fun _ _ _ h => h) (by rfl) (fun w' hS => by go_simp) hS ?_
      simp only [Act.put, List.setIfInBounds_toArray, List.set_cons_zero, List.set_cons_succ]
      refine takeY (i := 9) (some 17) (v := .agg (pvC fam (L : Int) (firstZ z L))) rfl rfl (by kernel_rfl) (by kernel_rfl) (by kernel_rfl) (fun _ _ _ h => h) (by rfl) (fun w' hS => by go_simp) hS ?_
      simp only [Act.put, List.setIfInBounds_toArray, List.set_cons_zero, List.set_cons_succ]
      refine takeY (i := 10) (some 18) (v := .int .i64 0) rfl rfl (by kernel_rfl) (by kernel_rfl) (by kernel_rfl) (fun _ _ _ h => h) (by rfl) (fun w' hS => by go_simp) hS ?_
      simp only [Act.put, List.setIfInBounds_toArray, List.set_cons_zero, List.set_cons_succ]
      refine takeSt (i := 12) 32 (.tmp 5) (.tmp 17) M1 0 (.agg (pvC fam (L : Int) (firstZ z L))) (pvC fam (L : Int) (firstZ z L)) (pvC fam (L : Int) (firstZ z L)) rfl rfl (by kernel_rfl) (by rfl) rfl rfl rfl rfl info_pv (all_pv _ _ _) K5.out (Nat.le_of_ble_eq_true rfl) (pv_over _ _ _ _ _ _) ?_
      intro W7 q1
      refine ⟨⟨KN.out.far q1 (by omega), K3.out.far q1 (by omega), HB.out.trans (q1.2.1 _ (by omega))⟩, ?_⟩
      simp only [Act.put, List.setIfInBounds_toArray, List.set_cons_zero, List.set_cons_succ]
      have K5n : Hid (Blk 32 W7 M1 (pvC fam (L : Int) (firstZ z L))) := Lib.hid q1.1
      clear K5
      have K5 := K5n
      clear K5n
      have KNn := Lib.hid (KN.out.far q1 (by omega))
      clear KN
      have KN := KNn
      clear KNn
      have K3n := Lib.hid (K3.out.far q1 (by omega))
      clear K3
      have K3 := K3n
      clear K3n
      have HBn := Lib.hid (HB.out.trans (q1.2.1 _ (by omega)))
      clear HB
      have HB := HBn
      clear HBn
      clear q1 hS
      have hS := (And.intro KN.out (And.intro K3.out HB.out))
      refine takeY (i := 13) (some 6) (v := .int .i64 0) rfl rfl (by kernel_rfl) (by kernel_rfl) (by kernel_rfl) (fun _ _ _ h => h) (by rfl) (fun w' hS => by go_simp) hS ?_
      simp only [Act.put, List.setIfInBounds_toArray, List.set_cons_zero, List.set_cons_succ]
      clear hS
      refine wpAnyH_done (by kernel_rfl) ?_ _
      go_wp2_with (refine wpList_ld (op := ⟨some 19, _, _, _, _, _⟩) (by rfl) 32 (.tmp 5) rfl M1 0 rfl (pvC fam (L : Int) (firstZ z L)) _ K5.out.all Try.underlying32 rfl (hi_pv fam (L : Int) (firstZ z L)) ?_; refine Hid.out ?_)
      refine Lib.hid ?_
      go_wp2_with (refine wpList_v (op := ⟨some 20, _, _, _, _, _⟩) rfl (.agg (ndC fam L (firstZ z L) false 0 (.pointer none) (.pointer none))) (build_nd0 _ _ _ rfl fam L (firstZ z L) rfl _) ?_; refine Hid.out ?_)
      refine Lib.hid ?_
      obtain ⟨N8, hN8⟩ : ∃ N, W7.heap.size = N := ⟨_, rfl⟩
      have HN8 := Lib.hid hN8
      clear hN8
      go_wp2_with (refine wpList_box (op := ⟨some 21, _, _, _, _, _⟩) rfl 106 (.tmp 20) rfl (ndC fam L (firstZ z L) false 0 (.pointer none) (.pointer none)) rfl N8 HN8.out ?_; intro w8 k1 b1 s1; refine Hid.out ?_)
      refine Lib.hid ?_
      have KA := Lib.hid k1
      clear k1
      have lt_g0_N8 : g0 < N8 := by rw [← HN8.out]; exact KN.out.lt
      have lt_N1_N8 : N1 < N8 := by rw [← HN8.out]; exact K3.out.lt
      have lt_M1_N8 : M1 < N8 := by rw [← HN8.out]; exact K5.out.lt
      have le_HB_N8 : w.heap.size ≤ N8 := by rw [← HN8.out]; exact HB.out.size
      have KNn := Lib.hid (KN.out.below b1 KN.out.lt)
      clear KN
      have KN := KNn
      clear KNn
      have K3n := Lib.hid (K3.out.below b1 K3.out.lt)
      clear K3
      have K3 := K3n
      clear K3n
      have K5n := Lib.hid (K5.out.below b1 K5.out.lt)
      clear K5
      have K5 := K5n
      clear K5n
      have HBn := Lib.hid (HB.out.trans (b1.mono HB.out.size))
      clear HB
      have HB := HBn
      clear HBn
      clear b1 HN8
      go_wp2_with fail
      have KAd := Lib.hid KA.out.drew
      clear KA
      refine wp_region_held_drew (S := fun w' => Blk 106 w' g0 (ndC fam n' z' hb m a b) ∧ Blk 32 w' N1 (pvC fam n z) ∧ Blk 32 w' M1 (pvC fam (L : Int) (firstZ z L)) ∧ Below w.heap.size w w') (by kernel_rfl) ⟨KN.out, K3.out, K5.out, HB.out.drew⟩ (fun hS => ?_)
      generalize hW9 : w8.drew = W9 at hS KAd ⊢
      clear hW9
      clear KN
      clear K3
      clear K5
      clear HB
      have KA := KAd
      clear KAd
      have KN := Lib.hid hS.1
      have K3 := Lib.hid hS.2.1
      have K5 := Lib.hid hS.2.2.1
      have HB := Lib.hid hS.2.2.2
      refine takeY (i := 0) (some 22) (v := .pointer (some ⟨N8, 0, none⟩)) rfl rfl (by kernel_rfl) (by kernel_rfl) (by kernel_rfl) (fun _ _ _ h => h) (by rfl) (fun w' hS => by clear hS; go_simp) hS ?_
      simp only [Act.put, List.setIfInBounds_toArray, List.set_cons_zero, List.set_cons_succ]
      refine takeY (i := 1) (some 23) (v := .pointer (some ⟨N8, 0, none⟩)) rfl rfl (by kernel_rfl) (by kernel_rfl) (by kernel_rfl) (fun _ _ _ h => h) (by rfl) (fun w' hS => by clear hS; go_simp) hS ?_
      simp only [Act.put, List.setIfInBounds_toArray, List.set_cons_zero, List.set_cons_succ]
      refine takeY (i := 2) (some 24) (v := .pointer (some ⟨g0, 0, none⟩)) rfl rfl (by kernel_rfl) (by kernel_rfl) (by kernel_rfl) (fun _ _ _ h => h) (by rfl) (fun w' hS => by clear hS; go_simp) hS ?_
      simp only [Act.put, List.setIfInBounds_toArray, List.set_cons_zero, List.set_cons_succ]
      refine takeY (i := 3) (some 25) (v := .pointer (some ⟨g0, 0, none⟩)) rfl rfl (by kernel_rfl) (by kernel_rfl) (by kernel_rfl) (fun _ _ _ h => h) (by rfl) (fun w' hS => by clear hS; go_simp) hS ?_
      simp only [Act.put, List.setIfInBounds_toArray, List.set_cons_zero, List.set_cons_succ]
      refine takeY (i := 4) (some 26) (v := .pointer (some ⟨g0, 0, none⟩)) rfl rfl (by kernel_rfl) (by kernel_rfl) (by kernel_rfl) (fun _ _ _ h => h) (by rfl) (fun w' hS => by clear hS; go_simp) hS ?_
      simp only [Act.put, List.setIfInBounds_toArray, List.set_cons_zero, List.set_cons_succ]
      refine takeL (i := 5) (some 27) 32 (.tmp 26) g0 0 (pvC fam n' z') _ rfl rfl (by kernel_rfl) (by kernel_rfl) (by kernel_rfl) (fun _ _ _ h => h) (by rfl) rfl rfl (fun w' hS => hS.1.ndpv) Try.underlying32 rfl (hi_pv fam (n' : Int) z') hS ?_
      simp only [Act.put, List.setIfInBounds_toArray, List.set_cons_zero, List.set_cons_succ]
      refine takeY (i := 7) (some 29) (v := .pointer (some ⟨g0, 0, none⟩)) rfl rfl (by kernel_rfl) (by kernel_rfl) (by kernel_rfl) (fun _ _ _ h => h) (by rfl) (fun w' hS => by clear hS; go_simp) hS ?_
      simp only [Act.put, List.setIfInBounds_toArray, List.set_cons_zero, List.set_cons_succ]
      refine takeY (i := 8) (some 30) (v := .pointer (some ⟨N8, 0, none⟩)) rfl rfl (by kernel_rfl) (by kernel_rfl) (by kernel_rfl) (fun _ _ _ h => h) (by rfl) (fun w' hS => by clear hS; go_simp) hS ?_
      simp only [Act.put, List.setIfInBounds_toArray, List.set_cons_zero, List.set_cons_succ]
      refine takeY (i := 9) (some 31) (v := .pointer (some ⟨N8, 20, none⟩)) rfl rfl (by kernel_rfl) (by kernel_rfl) (by kernel_rfl) (fun _ _ _ h => h) (by rfl) (fun w' hS => by clear hS; go_simp) hS ?_
      simp only [Act.put, List.setIfInBounds_toArray, List.set_cons_zero, List.set_cons_succ]
      refine takeC (i := 6) (some 28) 74 #[.pointer (some ⟨N8, 0, none⟩), .agg (pvC fam n' z')] (.int .u8 0) (R := fun w' => Below W9.heap.size W9 w') rfl rfl (by kernel_rfl) (by rfl) (by go_simp) (HSD.out N8 _ _ _ KA.out) (fun w' hb => ⟨hS.1.below hb hS.1.lt, hS.2.1.below hb hS.2.1.lt, hS.2.2.1.below hb hS.2.2.1.lt, hS.2.2.2.trans (hb.mono hS.2.2.2.size)⟩) (fun W10 hb1 hS2 => ?_)
      simp only [Act.put, List.setIfInBounds_toArray, List.set_cons_zero, List.set_cons_succ]
      have KAn := Lib.hid (KA.out.below hb1 KA.out.lt)
      clear KA
      have KA := KAn
      clear KAn
      clear KN
      clear K3
      clear K5
      clear HB
      clear hS hb1
      have hS := hS2
      clear hS2
      have KN := Lib.hid hS.1
      have K3 := Lib.hid hS.2.1
      have K5 := Lib.hid hS.2.2.1
      have HB := Lib.hid hS.2.2.2
      refine takeY (i := 10) (some 32) (v := .pointer (some ⟨N8, 20, none⟩)) rfl rfl (by kernel_rfl) (by kernel_rfl) (by kernel_rfl) (fun _ _ _ h => h) (by rfl) (fun w' hS => by clear hS; go_simp) hS ?_
      simp only [Act.put, List.setIfInBounds_toArray, List.set_cons_zero, List.set_cons_succ]
      refine takeSt (i := 11) 87 (.tmp 32) (.tmp 29) N8 20 (.pointer (some ⟨g0, 0, none⟩)) (#[.pointer (some ⟨g0, 0, none⟩)]) (ndC fam L (firstZ z L) false 0 (.pointer (some ⟨g0, 0, none⟩)) (.pointer none)) rfl rfl (by kernel_rfl) (by rfl) rfl rfl rfl rfl info_p1 (by kernel_rfl) KA.out (Nat.le_of_ble_eq_true rfl) (nd_put20 _ _ _ _ _ _ _ _) ?_
      intro W11 q1
      refine ⟨⟨KN.out.far q1 (by omega), K3.out.far q1 (by omega), K5.out.far q1 (by omega), HB.out.trans (q1.2.1 _ (by omega))⟩, ?_⟩
      simp only [Act.put, List.setIfInBounds_toArray, List.set_cons_zero, List.set_cons_succ]
      have KAn : Hid (Blk 106 W11 N8 (ndC fam L (firstZ z L) false 0 (.pointer (some ⟨g0, 0, none⟩)) (.pointer none))) := Lib.hid q1.1
      clear KA
      have KA := KAn
      clear KAn
      have KNn := Lib.hid (KN.out.far q1 (by omega))
      clear KN
      have KN := KNn
      clear KNn
      have K3n := Lib.hid (K3.out.far q1 (by omega))
      clear K3
      have K3 := K3n
      clear K3n
      have K5n := Lib.hid (K5.out.far q1 (by omega))
      clear K5
      have K5 := K5n
      clear K5n
      have HBn := Lib.hid (HB.out.trans (q1.2.1 _ (by omega)))
      clear HB
      have HB := HBn
      clear HBn
      clear q1 hS
      have hS := (And.intro KN.out (And.intro K3.out (And.intro K5.out HB.out)))
      clear hS
      refine wpAnyH_done (by kernel_rfl) ?_ _
      go_wp2_with fail
      refine bodyPost_ret (v := .pointer (some ⟨N8, 0, none⟩)) (by simp [results, Try.f73, go_sem]) rfl ?_
      exact ⟨N8, rfl, le_HB_N8, KA.out, HB.out⟩
  · skip
    intro W4 k1 b1 s1
    refine ⟨⟨hS.1.below b1 hS.1.lt, hS.2.1.below b1 hS.2.1.lt, hS.2.2.trans (b1.mono hS.2.2.size)⟩, ?_⟩
    simp only [Act.put, List.setIfInBounds_toArray, List.set_cons_zero, List.set_cons_succ]
    have K5 := Lib.hid k1
    clear k1
    have lt_g0_M0 : g0 < M0 := by rw [← HM0.out]; exact KN.out.lt
    have lt_N1_M0 : N1 < M0 := by rw [← HM0.out]; exact K3.out.lt
    have le_HB_M0 : w.heap.size ≤ M0 := by rw [← HM0.out]; exact HB.out.size
    have KNn := Lib.hid (KN.out.below b1 KN.out.lt)
    clear KN
    have KN := KNn
    clear KNn
    have K3n := Lib.hid (K3.out.below b1 K3.out.lt)
    clear K3
    have K3 := K3n
    clear K3n
    have HBn := Lib.hid (HB.out.trans (b1.mono HB.out.size))
    clear HB
    have HB := HBn
    clear HBn
    clear b1 HM0 hS
    have hS := (And.intro KN.out (And.intro K3.out HB.out))
    refine takeC (i := 6) (some 15) 83 #[.agg (pvC fam n' z'), .agg (pvC fam n z)] (.int .i64 (L : Int)) (R := fun w' => Below W4.heap.size W4 w') rfl rfl (by kernel_rfl) (by rfl) (by go_simp) (HSM.out _) (fun w' hb => ⟨hS.1.below hb hS.1.lt, hS.2.1.below hb hS.2.1.lt, hS.2.2.trans (hb.mono hS.2.2.size)⟩) ?_
    intro W5 hb1 hS2
    simp only [Act.put, List.setIfInBounds_toArray, List.set_cons_zero, List.set_cons_succ]
    have K5n := Lib.hid (K5.out.below hb1 K5.out.lt)
    clear K5
    have K5 := K5n
    clear K5n
    clear KN
    clear K3
    clear HB
    clear hS
    have hS := hS2
    clear hS2
    have KN := Lib.hid hS.1
    have K3 := Lib.hid hS.2.1
    have HB := Lib.hid hS.2.2
    clear hb1
    refine takeC (i := 7) (some 16) 24 #[.agg (pvC fam n z), .int .i64 (L : Int)] (.tuple #[.agg (pvC fam (L : Int) (firstZ z L)), .int .i64 0]) (R := fun w' => Below W5.heap.size W5 w') rfl rfl (by kernel_rfl) (by rfl) (by go_simp) (HCU.out _) (fun w' hb => ⟨hS.1.below hb hS.1.lt, hS.2.1.below hb hS.2.1.lt, hS.2.2.trans (hb.mono hS.2.2.size)⟩) ?_
    intro W6 hb1 hS2
    simp only [Act.put, List.setIfInBounds_toArray, List.set_cons_zero, List.set_cons_succ]
    have K5n := Lib.hid (K5.out.below hb1 K5.out.lt)
    clear K5
    have K5 := K5n
    clear K5n
    clear KN
    clear K3
    clear HB
    clear hS
    have hS := hS2
    clear hS2
    have KN := Lib.hid hS.1
    have K3 := Lib.hid hS.2.1
    have HB := Lib.hid hS.2.2
    clear hb1
    refine takeY (i := 8) (some 8) (v := .tuple #[.agg (pvC fam (L : Int) (firstZ z L)), .int .i64 0]) rfl rfl (by kernel_rfl) (by kernel_rfl) (by kernel_rfl) (fun _ _ _ h => h) (by rfl) (fun w' hS => by go_simp) hS ?_
    simp only [Act.put, List.setIfInBounds_toArray, List.set_cons_zero, List.set_cons_succ]
    refine takeY (i := 9) (some 17) (v := .agg (pvC fam (L : Int) (firstZ z L))) rfl rfl (by kernel_rfl) (by kernel_rfl) (by kernel_rfl) (fun _ _ _ h => h) (by rfl) (fun w' hS => by go_simp) hS ?_
    simp only [Act.put, List.setIfInBounds_toArray, List.set_cons_zero, List.set_cons_succ]
    refine takeY (i := 10) (some 18) (v := .int .i64 0) rfl rfl (by kernel_rfl) (by kernel_rfl) (by kernel_rfl) (fun _ _ _ h => h) (by rfl) (fun w' hS => by go_simp) hS ?_
    simp only [Act.put, List.setIfInBounds_toArray, List.set_cons_zero, List.set_cons_succ]
    refine takeSt (i := 12) 32 (.tmp 5) (.tmp 17) M0 0 (.agg (pvC fam (L : Int) (firstZ z L))) (pvC fam (L : Int) (firstZ z L)) (pvC fam (L : Int) (firstZ z L)) rfl rfl (by kernel_rfl) (by rfl) rfl rfl rfl rfl info_pv (all_pv _ _ _) K5.out (Nat.le_of_ble_eq_true rfl) (pv_over _ _ _ _ _ _) ?_
    intro W7 q1
    refine ⟨⟨KN.out.far q1 (by omega), K3.out.far q1 (by omega), HB.out.trans (q1.2.1 _ (by omega))⟩, ?_⟩
    simp only [Act.put, List.setIfInBounds_toArray, List.set_cons_zero, List.set_cons_succ]
    have K5n : Hid (Blk 32 W7 M0 (pvC fam (L : Int) (firstZ z L))) := Lib.hid q1.1
    clear K5
    have K5 := K5n
    clear K5n
    have KNn := Lib.hid (KN.out.far q1 (by omega))
    clear KN
    have KN := KNn
    clear KNn
    have K3n := Lib.hid (K3.out.far q1 (by omega))
    clear K3
    have K3 := K3n
    clear K3n
    have HBn := Lib.hid (HB.out.trans (q1.2.1 _ (by omega)))
    clear HB
    have HB := HBn
    clear HBn
    clear q1 hS
    have hS := (And.intro KN.out (And.intro K3.out HB.out))
    refine takeY (i := 13) (some 6) (v := .int .i64 0) rfl rfl (by kernel_rfl) (by kernel_rfl) (by kernel_rfl) (fun _ _ _ h => h) (by rfl) (fun w' hS => by go_simp) hS ?_
    simp only [Act.put, List.setIfInBounds_toArray, List.set_cons_zero, List.set_cons_succ]
    clear hS
    refine wpAnyH_done (by kernel_rfl) ?_ _
    go_wp2_with (refine wpList_ld (op := ⟨some 19, _, _, _, _, _⟩) (by rfl) 32 (.tmp 5) rfl M0 0 rfl (pvC fam (L : Int) (firstZ z L)) _ K5.out.all Try.underlying32 rfl (hi_pv fam (L : Int) (firstZ z L)) ?_; refine Hid.out ?_)
    refine Lib.hid ?_
    go_wp2_with (refine wpList_v (op := ⟨some 20, _, _, _, _, _⟩) rfl (.agg (ndC fam L (firstZ z L) false 0 (.pointer none) (.pointer none))) (build_nd0 _ _ _ rfl fam L (firstZ z L) rfl _) ?_; refine Hid.out ?_)
    refine Lib.hid ?_
    obtain ⟨N8, hN8⟩ : ∃ N, W7.heap.size = N := ⟨_, rfl⟩
    have HN8 := Lib.hid hN8
    clear hN8
    go_wp2_with (refine wpList_box (op := ⟨some 21, _, _, _, _, _⟩) rfl 106 (.tmp 20) rfl (ndC fam L (firstZ z L) false 0 (.pointer none) (.pointer none)) rfl N8 HN8.out ?_; intro w8 k1 b1 s1; refine Hid.out ?_)
    refine Lib.hid ?_
    have KA := Lib.hid k1
    clear k1
    have lt_g0_N8 : g0 < N8 := by rw [← HN8.out]; exact KN.out.lt
    have lt_N1_N8 : N1 < N8 := by rw [← HN8.out]; exact K3.out.lt
    have lt_M0_N8 : M0 < N8 := by rw [← HN8.out]; exact K5.out.lt
    have le_HB_N8 : w.heap.size ≤ N8 := by rw [← HN8.out]; exact HB.out.size
    have KNn := Lib.hid (KN.out.below b1 KN.out.lt)
    clear KN
    have KN := KNn
    clear KNn
    have K3n := Lib.hid (K3.out.below b1 K3.out.lt)
    clear K3
    have K3 := K3n
    clear K3n
    have K5n := Lib.hid (K5.out.below b1 K5.out.lt)
    clear K5
    have K5 := K5n
    clear K5n
    have HBn := Lib.hid (HB.out.trans (b1.mono HB.out.size))
    clear HB
    have HB := HBn
    clear HBn
    clear b1 HN8
    go_wp2_with fail
    have KAd := Lib.hid KA.out.drew
    clear KA
    refine wp_region_held_drew (S := fun w' => Blk 106 w' g0 (ndC fam n' z' hb m a b) ∧ Blk 32 w' N1 (pvC fam n z) ∧ Blk 32 w' M0 (pvC fam (L : Int) (firstZ z L)) ∧ Below w.heap.size w w') (by kernel_rfl) ⟨KN.out, K3.out, K5.out, HB.out.drew⟩ (fun hS => ?_)
    generalize hW9 : w8.drew = W9 at hS KAd ⊢
    clear hW9
    clear KN
    clear K3
    clear K5
    clear HB
    have KA := KAd
    clear KAd
    have KN := Lib.hid hS.1
    have K3 := Lib.hid hS.2.1
    have K5 := Lib.hid hS.2.2.1
    have HB := Lib.hid hS.2.2.2
    refine takeY (i := 0) (some 22) (v := .pointer (some ⟨N8, 0, none⟩)) rfl rfl (by kernel_rfl) (by kernel_rfl) (by kernel_rfl) (fun _ _ _ h => h) (by rfl) (fun w' hS => by clear hS; go_simp) hS ?_
    simp only [Act.put, List.setIfInBounds_toArray, List.set_cons_zero, List.set_cons_succ]
    refine takeY (i := 1) (some 23) (v := .pointer (some ⟨N8, 0, none⟩)) rfl rfl (by kernel_rfl) (by kernel_rfl) (by kernel_rfl) (fun _ _ _ h => h) (by rfl) (fun w' hS => by clear hS; go_simp) hS ?_
    simp only [Act.put, List.setIfInBounds_toArray, List.set_cons_zero, List.set_cons_succ]
    refine takeY (i := 2) (some 24) (v := .pointer (some ⟨g0, 0, none⟩)) rfl rfl (by kernel_rfl) (by kernel_rfl) (by kernel_rfl) (fun _ _ _ h => h) (by rfl) (fun w' hS => by clear hS; go_simp) hS ?_
    simp only [Act.put, List.setIfInBounds_toArray, List.set_cons_zero, List.set_cons_succ]
    refine takeY (i := 3) (some 25) (v := .pointer (some ⟨g0, 0, none⟩)) rfl rfl (by kernel_rfl) (by kernel_rfl) (by kernel_rfl) (fun _ _ _ h => h) (by rfl) (fun w' hS => by clear hS; go_simp) hS ?_
    simp only [Act.put, List.setIfInBounds_toArray, List.set_cons_zero, List.set_cons_succ]
    refine takeY (i := 4) (some 26) (v := .pointer (some ⟨g0, 0, none⟩)) rfl rfl (by kernel_rfl) (by kernel_rfl) (by kernel_rfl) (fun _ _ _ h => h) (by rfl) (fun w' hS => by clear hS; go_simp) hS ?_
    simp only [Act.put, List.setIfInBounds_toArray, List.set_cons_zero, List.set_cons_succ]
    refine takeL (i := 5) (some 27) 32 (.tmp 26) g0 0 (pvC fam n' z') _ rfl rfl (by kernel_rfl) (by kernel_rfl) (by kernel_rfl) (fun _ _ _ h => h) (by rfl) rfl rfl (fun w' hS => hS.1.ndpv) Try.underlying32 rfl (hi_pv fam (n' : Int) z') hS ?_
    simp only [Act.put, List.setIfInBounds_toArray, List.set_cons_zero, List.set_cons_succ]
    refine takeY (i := 7) (some 29) (v := .pointer (some ⟨g0, 0, none⟩)) rfl rfl (by kernel_rfl) (by kernel_rfl) (by kernel_rfl) (fun _ _ _ h => h) (by rfl) (fun w' hS => by clear hS; go_simp) hS ?_
    simp only [Act.put, List.setIfInBounds_toArray, List.set_cons_zero, List.set_cons_succ]
    refine takeY (i := 8) (some 30) (v := .pointer (some ⟨N8, 0, none⟩)) rfl rfl (by kernel_rfl) (by kernel_rfl) (by kernel_rfl) (fun _ _ _ h => h) (by rfl) (fun w' hS => by clear hS; go_simp) hS ?_
    simp only [Act.put, List.setIfInBounds_toArray, List.set_cons_zero, List.set_cons_succ]
    refine takeY (i := 9) (some 31) (v := .pointer (some ⟨N8, 20, none⟩)) rfl rfl (by kernel_rfl) (by kernel_rfl) (by kernel_rfl) (fun _ _ _ h => h) (by rfl) (fun w' hS => by clear hS; go_simp) hS ?_
    simp only [Act.put, List.setIfInBounds_toArray, List.set_cons_zero, List.set_cons_succ]
    refine takeC (i := 6) (some 28) 74 #[.pointer (some ⟨N8, 0, none⟩), .agg (pvC fam n' z')] (.int .u8 0) (R := fun w' => Below W9.heap.size W9 w') rfl rfl (by kernel_rfl) (by rfl) (by go_simp) (HSD.out N8 _ _ _ KA.out) (fun w' hb => ⟨hS.1.below hb hS.1.lt, hS.2.1.below hb hS.2.1.lt, hS.2.2.1.below hb hS.2.2.1.lt, hS.2.2.2.trans (hb.mono hS.2.2.2.size)⟩) (fun W10 hb1 hS2 => ?_)
    simp only [Act.put, List.setIfInBounds_toArray, List.set_cons_zero, List.set_cons_succ]
    have KAn := Lib.hid (KA.out.below hb1 KA.out.lt)
    clear KA
    have KA := KAn
    clear KAn
    clear KN
    clear K3
    clear K5
    clear HB
    clear hS hb1
    have hS := hS2
    clear hS2
    have KN := Lib.hid hS.1
    have K3 := Lib.hid hS.2.1
    have K5 := Lib.hid hS.2.2.1
    have HB := Lib.hid hS.2.2.2
    refine takeY (i := 10) (some 32) (v := .pointer (some ⟨N8, 20, none⟩)) rfl rfl (by kernel_rfl) (by kernel_rfl) (by kernel_rfl) (fun _ _ _ h => h) (by rfl) (fun w' hS => by clear hS; go_simp) hS ?_
    simp only [Act.put, List.setIfInBounds_toArray, List.set_cons_zero, List.set_cons_succ]
    refine takeSt (i := 11) 87 (.tmp 32) (.tmp 29) N8 20 (.pointer (some ⟨g0, 0, none⟩)) (#[.pointer (some ⟨g0, 0, none⟩)]) (ndC fam L (firstZ z L) false 0 (.pointer (some ⟨g0, 0, none⟩)) (.pointer none)) rfl rfl (by kernel_rfl) (by rfl) rfl rfl rfl rfl info_p1 (by kernel_rfl) KA.out (Nat.le_of_ble_eq_true rfl) (nd_put20 _ _ _ _ _ _ _ _) ?_
    intro W11 q1
    refine ⟨⟨KN.out.far q1 (by omega), K3.out.far q1 (by omega), K5.out.far q1 (by omega), HB.out.trans (q1.2.1 _ (by omega))⟩, ?_⟩
    simp only [Act.put, List.setIfInBounds_toArray, List.set_cons_zero, List.set_cons_succ]
    have KAn : Hid (Blk 106 W11 N8 (ndC fam L (firstZ z L) false 0 (.pointer (some ⟨g0, 0, none⟩)) (.pointer none))) := Lib.hid q1.1
    clear KA
    have KA := KAn
    clear KAn
    have KNn := Lib.hid (KN.out.far q1 (by omega))
    clear KN
    have KN := KNn
    clear KNn
    have K3n := Lib.hid (K3.out.far q1 (by omega))
    clear K3
    have K3 := K3n
    clear K3n
    have K5n := Lib.hid (K5.out.far q1 (by omega))
    clear K5
    have K5 := K5n
    clear K5n
    have HBn := Lib.hid (HB.out.trans (q1.2.1 _ (by omega)))
    clear HB
    have HB := HBn
    clear HBn
    clear q1 hS
    have hS := (And.intro KN.out (And.intro K3.out (And.intro K5.out HB.out)))
    clear hS
    refine wpAnyH_done (by kernel_rfl) ?_ _
    go_wp2_with fail
    refine bodyPost_ret (v := .pointer (some ⟨N8, 0, none⟩)) (by simp [results, Try.f73, go_sem]) rfl ?_
    exact ⟨N8, rfl, le_HB_N8, KA.out, HB.out⟩
set_option maxHeartbeats 16000000 in
set_option maxRecDepth 100000 in
theorem fork_1 (g0 : Nat) (fam m : Int) (n n' L : Nat) (z z' : Nat → Int) (hb : Bool) (a b : Value) (hz : Bytes z) (hz' : Bytes z') (hs : Sized fam n) (hn : n ≤ 128) (hn' : n' ≤ 128) (hL : Tr.lcp (btP n' z') (btP n z) = L) (hlt : L < n') (hsd : Tr.side (btP n' z') L = true) (w : World) (hk : Blk 106 w g0 (ndC fam n' z' hb m a b)) :
    Calls Try.prog 73 #[.pointer (some ⟨g0, 0, none⟩), .agg (pvC fam n z)] w fun e w' => ∃ gA, e = .returned (.pointer (some ⟨gA, 0, none⟩)) ∧ w.heap.size ≤ gA ∧ Blk 106 w' gA (ndC fam L (firstZ z L) false 0 (.pointer none) (.pointer (some ⟨g0, 0, none⟩))) ∧ Below w.heap.size w w' := by
  have HSM := Lib.hid (same_bit fam fam n' n z' z hz' hz hn' hn)
  rw [hL] at HSM
  have hLn : L ≤ n := by rw [← hL]; exact Nat.le_trans (Tr.lcp_le_right _ _) (by rw [btP_len]; exact Nat.le_refl _)
  have HCU := Lib.hid (fun W => cut_ok fam n L z W hz hLn hs)
  have HSD := Lib.hid (fun gA a b W hk => side_nd gA fam fam 0 L n' (firstZ z L) z' false a b hz' hlt hn' W hk)
  rw [hsd] at HSD
  have KN := Lib.hid hk
  clear hz hz' hs hn hn' hL hlt hsd hk hLn
  go_enter Try.func73, Try.ntmps73
  have HB := Lib.hid (Below.refl w.heap.size w)
  obtain ⟨N1, hN1⟩ : ∃ N, w.heap.size = N := ⟨_, rfl⟩
  have HN1 := Lib.hid hN1
  clear hN1
  go_wp2_with (refine wpList_box (op := ⟨some 3, _, _, _, _, _⟩) rfl 32 (.tmp 1) rfl (pvC fam n z) rfl N1 HN1.out ?_; intro w1 k1 b1 s1; refine Hid.out ?_)
  refine Lib.hid ?_
  have K3 := Lib.hid k1
  clear k1
  have lt_g0_N1 : g0 < N1 := by rw [← HN1.out]; exact KN.out.lt
  have le_HB_N1 : w.heap.size ≤ N1 := by rw [← HN1.out]; exact HB.out.size
  have KNn := Lib.hid (KN.out.below b1 KN.out.lt)
  clear KN
  have KN := KNn
  clear KNn
  have HBn := Lib.hid (HB.out.trans (b1.mono HB.out.size))
  clear HB
  have HB := HBn
  clear HBn
  clear b1 HN1
  go_wp2_with fail
  refine wp_region_held_drew (S := fun w' => Blk 106 w' g0 (ndC fam n' z' hb m a b) ∧ Blk 32 w' N1 (pvC fam n z) ∧ Below w.heap.size w w') (by kernel_rfl) ⟨KN.out, K3.out, HB.out.drew⟩ (fun hS => ?_)
  generalize hW2 : w1.drew = W2 at hS  ⊢
  clear hW2
  clear KN
  clear K3
  clear HB
  have KN := Lib.hid hS.1
  have K3 := Lib.hid hS.2.1
  have HB := Lib.hid hS.2.2
  refine takeL (i := 0) (some 9) 32 (.tmp 3) N1 0 (pvC fam n z) _ rfl rfl (by kernel_rfl) (by kernel_rfl) (by kernel_rfl) (fun _ _ _ h => h) (by rfl) rfl rfl (fun w' hS => hS.2.1.all) Try.underlying32 rfl (hi_pv fam (n : Int) z) hS ?_
  simp only [Act.put, List.setIfInBounds_toArray, List.set_cons_zero, List.set_cons_succ]
  refine takeY (i := 1) (some 10) (v := .pointer (some ⟨g0, 0, none⟩)) rfl rfl (by kernel_rfl) (by kernel_rfl) (by kernel_rfl) (fun _ _ _ h => h) (by rfl) (fun w' hS => by clear hS; go_simp) hS ?_
  simp only [Act.put, List.setIfInBounds_toArray, List.set_cons_zero, List.set_cons_succ]
  refine takeY (i := 2) (some 11) (v := .pointer (some ⟨g0, 0, none⟩)) rfl rfl (by kernel_rfl) (by kernel_rfl) (by kernel_rfl) (fun _ _ _ h => h) (by rfl) (fun w' hS => by clear hS; go_simp) hS ?_
  simp only [Act.put, List.setIfInBounds_toArray, List.set_cons_zero, List.set_cons_succ]
  refine takeY (i := 3) (some 12) (v := .pointer (some ⟨g0, 0, none⟩)) rfl rfl (by kernel_rfl) (by kernel_rfl) (by kernel_rfl) (fun _ _ _ h => h) (by rfl) (fun w' hS => by clear hS; go_simp) hS ?_
  simp only [Act.put, List.setIfInBounds_toArray, List.set_cons_zero, List.set_cons_succ]
  refine takeL (i := 4) (some 13) 32 (.tmp 12) g0 0 (pvC fam n' z') _ rfl rfl (by kernel_rfl) (by kernel_rfl) (by kernel_rfl) (fun _ _ _ h => h) (by rfl) rfl rfl (fun w' hS => hS.1.ndpv) Try.underlying32 rfl (hi_pv fam (n' : Int) z') hS ?_
  simp only [Act.put, List.setIfInBounds_toArray, List.set_cons_zero, List.set_cons_succ]
  refine takeL (i := 5) (some 14) 32 (.tmp 3) N1 0 (pvC fam n z) _ rfl rfl (by kernel_rfl) (by kernel_rfl) (by kernel_rfl) (fun _ _ _ h => h) (by rfl) rfl rfl (fun w' hS => hS.2.1.all) Try.underlying32 rfl (hi_pv fam (n : Int) z) hS ?_
  simp only [Act.put, List.setIfInBounds_toArray, List.set_cons_zero, List.set_cons_succ]
  obtain ⟨M0, hM0⟩ : ∃ N, W2.heap.size = N := ⟨_, rfl⟩
  have HM0 := Lib.hid hM0
  clear hM0
  refine wpAnyH_ready (show Region.ready _ _ _ = [6, 11] from by kernel_rfl) (by simp) (consC (i := 6) (some 15) 83 #[.agg (pvC fam n' z'), .agg (pvC fam n z)] (.int .i64 (L : Int)) (R := fun w' => Below W2.heap.size W2 w') rfl rfl (by rfl) (by go_simp) (HSM.out _) (fun w' hb => ⟨hS.1.below hb hS.1.lt, hS.2.1.below hb hS.2.1.lt, hS.2.2.trans (hb.mono hS.2.2.size)⟩) ?_ (consMk (i := 11) (some 5) 32 (pvC 0 0 Z0) rfl rfl (by rfl) rfl zero_pvT M0 HM0.out ?_ AllReadyH.nil))
  · skip
    clear HM0
    intro W3 hb1 hS2
    simp only [Act.put, List.setIfInBounds_toArray, List.set_cons_zero, List.set_cons_succ]
    clear KN
    clear K3
    clear HB
    clear hS
    have hS := hS2
    clear hS2
    have KN := Lib.hid hS.1
    have K3 := Lib.hid hS.2.1
    have HB := Lib.hid hS.2.2
    clear hb1
    obtain ⟨M1, hM1⟩ : ∃ N, W3.heap.size = N := ⟨_, rfl⟩
    have HM1 := Lib.hid hM1
    clear hM1
    refine wpAnyH_ready (show Region.ready _ _ _ = [7, 11] from by kernel_rfl) (by simp) (consC (i := 7) (some 16) 24 #[.agg (pvC fam n z), .int .i64 (L : Int)] (.tuple #[.agg (pvC fam (L : Int) (firstZ z L)), .int .i64 0]) (R := fun w' => Below W3.heap.size W3 w') rfl rfl (by rfl) (by go_simp) (HCU.out _) (fun w' hb => ⟨hS.1.below hb hS.1.lt, hS.2.1.below hb hS.2.1.lt, hS.2.2.trans (hb.mono hS.2.2.size)⟩) ?_ (consMk (i := 11) (some 5) 32 (pvC 0 0 Z0) rfl rfl (by rfl) rfl zero_pvT M1 HM1.out ?_ AllReadyH.nil))
    · skip
      clear HM1
      intro W4 hb1 hS2
      simp only [Act.put, List.setIfInBounds_toArray, List.set_cons_zero, List.set_cons_succ]
      clear KN
      clear K3
      clear HB
      clear hS
      have hS := hS2
      clear hS2
      have KN := Lib.hid hS.1
      have K3 := Lib.hid hS.2.1
      have HB := Lib.hid hS.2.2
      clear hb1
      obtain ⟨M2, hM2⟩ : ∃ N, W4.heap.size = N := ⟨_, rfl⟩
      have HM2 := Lib.hid hM2
      clear hM2
      refine takeY (i := 8) (some 8) (v := .tuple #[.agg (pvC fam (L : Int) (firstZ z L)), .int .i64 0]) rfl rfl (by kernel_rfl) (by kernel_rfl) (by kernel_rfl) (fun _ _ _ h => h) (by rfl) (fun w' hS => by go_simp) hS ?_
      simp only [Act.put, List.setIfInBounds_toArray, List.set_cons_zero, List.set_cons_succ]
      refine takeY (i := 9) (some 17) (v := .agg (pvC fam (L : Int) (firstZ z L))) rfl rfl (by kernel_rfl) (by kernel_rfl) (by kernel_rfl) (fun _ _ _ h => h) (by rfl) (fun w' hS => by go_simp) hS ?_
      simp only [Act.put, List.setIfInBounds_toArray, List.set_cons_zero, List.set_cons_succ]
      refine takeY (i := 10) (some 18) (v := .int .i64 0) rfl rfl (by kernel_rfl) (by kernel_rfl) (by kernel_rfl) (fun _ _ _ h => h) (by rfl) (fun w' hS => by go_simp) hS ?_
      simp only [Act.put, List.setIfInBounds_toArray, List.set_cons_zero, List.set_cons_succ]
      refine takeMk (i := 11) (some 5) 32 (pvC 0 0 Z0) rfl rfl (by kernel_rfl) (by rfl) rfl zero_pvT M2 HM2.out ?_
      intro W5 k1 b1 s1
      refine ⟨⟨hS.1.below b1 hS.1.lt, hS.2.1.below b1 hS.2.1.lt, hS.2.2.trans (b1.mono hS.2.2.size)⟩, ?_⟩
      simp only [Act.put, List.setIfInBounds_toArray, List.set_cons_zero, List.set_cons_succ]
      have K5 := Lib.hid k1
      clear k1
      have lt_g0_M2 : g0 < M2 := by rw [← HM2.out]; exact KN.out.lt
      have lt_N1_M2 : N1 < M2 := by rw [← HM2.out]; exact K3.out.lt
      have le_HB_M2 : w.heap.size ≤ M2 := by rw [← HM2.out]; exact HB.out.size
      have KNn := Lib.hid (KN.out.below b1 KN.out.lt)
      clear KN
      have KN := KNn
      clear KNn
      have K3n := Lib.hid (K3.out.below b1 K3.out.lt)
      clear K3
      have K3 := K3n
      clear K3n
      have HBn := Lib.hid (HB.out.trans (b1.mono HB.out.size))
      clear HB
      have HB := HBn
      clear HBn
      clear b1 HM2 hS
      have hS := (And.intro KN.out (And.intro K3.out HB.out))
      refine takeSt (i := 12) 32 (.tmp 5) (.tmp 17) M2 0 (.agg (pvC fam (L : Int) (firstZ z L))) (pvC fam (L : Int) (firstZ z L)) (pvC fam (L : Int) (firstZ z L)) rfl rfl (by kernel_rfl) (by rfl) rfl rfl rfl rfl info_pv (all_pv _ _ _) K5.out (Nat.le_of_ble_eq_true rfl) (pv_over _ _ _ _ _ _) ?_
      intro W6 q1
      refine ⟨⟨KN.out.far q1 (by omega), K3.out.far q1 (by omega), HB.out.trans (q1.2.1 _ (by omega))⟩, ?_⟩
      simp only [Act.put, List.setIfInBounds_toArray, List.set_cons_zero, List.set_cons_succ]
      have K5n : Hid (Blk 32 W6 M2 (pvC fam (L : Int) (firstZ z L))) := Lib.hid q1.1
      clear K5
      have K5 := K5n
      clear K5n
      have KNn := Lib.hid (KN.out.far q1 (by omega))
      clear KN
      have KN := KNn
      clear KNn
      have K3n := Lib.hid (K3.out.far q1 (by omega))
      clear K3
      have K3 := K3n
      clear K3n
      have HBn := Lib.hid (HB.out.trans (q1.2.1 _ (by omega)))
      clear HB
      have HB := HBn
      clear HBn
      clear q1 hS
      have hS := (And.intro KN.out (And.intro K3.out HB.out))
      refine takeY (i := 13) (some 6) (v := .int .i64 0) rfl rfl (by kernel_rfl) (by kernel_rfl) (by kernel_rfl) (fun _ _ _ h => h) (by rfl) (fun w' hS => by go_simp) hS ?_
      simp only [Act.put, List.setIfInBounds_toArray, List.set_cons_zero, List.set_cons_succ]
      clear hS
      refine wpAnyH_done (by kernel_rfl) ?_ _
      go_wp2_with (refine wpList_ld (op := ⟨some 19, _, _, _, _, _⟩) (by rfl) 32 (.tmp 5) rfl M2 0 rfl (pvC fam (L : Int) (firstZ z L)) _ K5.out.all Try.underlying32 rfl (hi_pv fam (L : Int) (firstZ z L)) ?_; refine Hid.out ?_)
      refine Lib.hid ?_
      go_wp2_with (refine wpList_v (op := ⟨some 20, _, _, _, _, _⟩) rfl (.agg (ndC fam L (firstZ z L) false 0 (.pointer none) (.pointer none))) (build_nd0 _ _ _ rfl fam L (firstZ z L) rfl _) ?_; refine Hid.out ?_)
      refine Lib.hid ?_
      obtain ⟨N7, hN7⟩ : ∃ N, W6.heap.size = N := ⟨_, rfl⟩
      have HN7 := Lib.hid hN7
      clear hN7
      go_wp2_with (refine wpList_box (op := ⟨some 21, _, _, _, _, _⟩) rfl 106 (.tmp 20) rfl (ndC fam L (firstZ z L) false 0 (.pointer none) (.pointer none)) rfl N7 HN7.out ?_; intro w7 k1 b1 s1; refine Hid.out ?_)
      refine Lib.hid ?_
      have KA := Lib.hid k1
      clear k1
      have lt_g0_N7 : g0 < N7 := by rw [← HN7.out]; exact KN.out.lt
      have lt_N1_N7 : N1 < N7 := by rw [← HN7.out]; exact K3.out.lt
      have lt_M2_N7 : M2 < N7 := by rw [← HN7.out]; exact K5.out.lt
      have le_HB_N7 : w.heap.size ≤ N7 := by rw [← HN7.out]; exact HB.out.size
      have KNn := Lib.hid (KN.out.below b1 KN.out.lt)
      clear KN
      have KN := KNn
      clear KNn
      have K3n := Lib.hid (K3.out.below b1 K3.out.lt)
      clear K3
      have K3 := K3n
      clear K3n
      have K5n := Lib.hid (K5.out.below b1 K5.out.lt)
      clear K5
      have K5 := K5n
      clear K5n
      have HBn := Lib.hid (HB.out.trans (b1.mono HB.out.size))
      clear HB
      have HB := HBn
      clear HBn
      clear b1 HN7
      go_wp2_with fail
      have KAd := Lib.hid KA.out.drew
      clear KA
      refine wp_region_held_drew (S := fun w' => Blk 106 w' g0 (ndC fam n' z' hb m a b) ∧ Blk 32 w' N1 (pvC fam n z) ∧ Blk 32 w' M2 (pvC fam (L : Int) (firstZ z L)) ∧ Below w.heap.size w w') (by kernel_rfl) ⟨KN.out, K3.out, K5.out, HB.out.drew⟩ (fun hS => ?_)
      generalize hW8 : w7.drew = W8 at hS KAd ⊢
      clear hW8
      clear KN
      clear K3
      clear K5
      clear HB
      have KA := KAd
      clear KAd
      have KN := Lib.hid hS.1
      have K3 := Lib.hid hS.2.1
      have K5 := Lib.hid hS.2.2.1
      have HB := Lib.hid hS.2.2.2
      refine takeY (i := 0) (some 22) (v := .pointer (some ⟨N7, 0, none⟩)) rfl rfl (by kernel_rfl) (by kernel_rfl) (by kernel_rfl) (fun _ _ _ h => h) (by rfl) (fun w' hS => by clear hS; go_simp) hS ?_
      simp only [Act.put, List.setIfInBounds_toArray, List.set_cons_zero, List.set_cons_succ]
      refine takeY (i := 1) (some 23) (v := .pointer (some ⟨N7, 0, none⟩)) rfl rfl (by kernel_rfl) (by kernel_rfl) (by kernel_rfl) (fun _ _ _ h => h) (by rfl) (fun w' hS => by clear hS; go_simp) hS ?_
      simp only [Act.put, List.setIfInBounds_toArray, List.set_cons_zero, List.set_cons_succ]
      refine takeY (i := 2) (some 24) (v := .pointer (some ⟨g0, 0, none⟩)) rfl rfl (by kernel_rfl) (by kernel_rfl) (by kernel_rfl) (fun _ _ _ h => h) (by rfl) (fun w' hS => by clear hS; go_simp) hS ?_
      simp only [Act.put, List.setIfInBounds_toArray, List.set_cons_zero, List.set_cons_succ]
      refine takeY (i := 3) (some 25) (v := .pointer (some ⟨g0, 0, none⟩)) rfl rfl (by kernel_rfl) (by kernel_rfl) (by kernel_rfl) (fun _ _ _ h => h) (by rfl) (fun w' hS => by clear hS; go_simp) hS ?_
      simp only [Act.put, List.setIfInBounds_toArray, List.set_cons_zero, List.set_cons_succ]
      refine takeY (i := 4) (some 26) (v := .pointer (some ⟨g0, 0, none⟩)) rfl rfl (by kernel_rfl) (by kernel_rfl) (by kernel_rfl) (fun _ _ _ h => h) (by rfl) (fun w' hS => by clear hS; go_simp) hS ?_
      simp only [Act.put, List.setIfInBounds_toArray, List.set_cons_zero, List.set_cons_succ]
      refine takeL (i := 5) (some 27) 32 (.tmp 26) g0 0 (pvC fam n' z') _ rfl rfl (by kernel_rfl) (by kernel_rfl) (by kernel_rfl) (fun _ _ _ h => h) (by rfl) rfl rfl (fun w' hS => hS.1.ndpv) Try.underlying32 rfl (hi_pv fam (n' : Int) z') hS ?_
      simp only [Act.put, List.setIfInBounds_toArray, List.set_cons_zero, List.set_cons_succ]
      refine takeY (i := 7) (some 29) (v := .pointer (some ⟨g0, 0, none⟩)) rfl rfl (by kernel_rfl) (by kernel_rfl) (by kernel_rfl) (fun _ _ _ h => h) (by rfl) (fun w' hS => by clear hS; go_simp) hS ?_
      simp only [Act.put, List.setIfInBounds_toArray, List.set_cons_zero, List.set_cons_succ]
      refine takeY (i := 8) (some 30) (v := .pointer (some ⟨N7, 0, none⟩)) rfl rfl (by kernel_rfl) (by kernel_rfl) (by kernel_rfl) (fun _ _ _ h => h) (by rfl) (fun w' hS => by clear hS; go_simp) hS ?_
      simp only [Act.put, List.setIfInBounds_toArray, List.set_cons_zero, List.set_cons_succ]
      refine takeY (i := 9) (some 31) (v := .pointer (some ⟨N7, 20, none⟩)) rfl rfl (by kernel_rfl) (by kernel_rfl) (by kernel_rfl) (fun _ _ _ h => h) (by rfl) (fun w' hS => by clear hS; go_simp) hS ?_
      simp only [Act.put, List.setIfInBounds_toArray, List.set_cons_zero, List.set_cons_succ]
      refine takeC (i := 6) (some 28) 74 #[.pointer (some ⟨N7, 0, none⟩), .agg (pvC fam n' z')] (.int .u8 1) (R := fun w' => Below W8.heap.size W8 w') rfl rfl (by kernel_rfl) (by rfl) (by go_simp) (HSD.out N7 _ _ _ KA.out) (fun w' hb => ⟨hS.1.below hb hS.1.lt, hS.2.1.below hb hS.2.1.lt, hS.2.2.1.below hb hS.2.2.1.lt, hS.2.2.2.trans (hb.mono hS.2.2.2.size)⟩) (fun W9 hb1 hS2 => ?_)
      simp only [Act.put, List.setIfInBounds_toArray, List.set_cons_zero, List.set_cons_succ]
      have KAn := Lib.hid (KA.out.below hb1 KA.out.lt)
      clear KA
      have KA := KAn
      clear KAn
      clear KN
      clear K3
      clear K5
      clear HB
      clear hS hb1
      have hS := hS2
      clear hS2
      have KN := Lib.hid hS.1
      have K3 := Lib.hid hS.2.1
      have K5 := Lib.hid hS.2.2.1
      have HB := Lib.hid hS.2.2.2
      refine takeY (i := 10) (some 32) (v := .pointer (some ⟨N7, 21, none⟩)) rfl rfl (by kernel_rfl) (by kernel_rfl) (by kernel_rfl) (fun _ _ _ h => h) (by rfl) (fun w' hS => by clear hS; go_simp) hS ?_
      simp only [Act.put, List.setIfInBounds_toArray, List.set_cons_zero, List.set_cons_succ]
      refine takeSt (i := 11) 87 (.tmp 32) (.tmp 29) N7 21 (.pointer (some ⟨g0, 0, none⟩)) (#[.pointer (some ⟨g0, 0, none⟩)]) (ndC fam L (firstZ z L) false 0 (.pointer none) (.pointer (some ⟨g0, 0, none⟩))) rfl rfl (by kernel_rfl) (by rfl) rfl rfl rfl rfl info_p1 (by kernel_rfl) KA.out (Nat.le_of_ble_eq_true rfl) (nd_put21 _ _ _ _ _ _ _ _) ?_
      intro W10 q1
      refine ⟨⟨KN.out.far q1 (by omega), K3.out.far q1 (by omega), K5.out.far q1 (by omega), HB.out.trans (q1.2.1 _ (by omega))⟩, ?_⟩
      simp only [Act.put, List.setIfInBounds_toArray, List.set_cons_zero, List.set_cons_succ]
      have KAn : Hid (Blk 106 W10 N7 (ndC fam L (firstZ z L) false 0 (.pointer none) (.pointer (some ⟨g0, 0, none⟩)))) := Lib.hid q1.1
      clear KA
      have KA := KAn
      clear KAn
      have KNn := Lib.hid (KN.out.far q1 (by omega))
      clear KN
      have KN := KNn
      clear KNn
      have K3n := Lib.hid (K3.out.far q1 (by omega))
      clear K3
      have K3 := K3n
      clear K3n
      have K5n := Lib.hid (K5.out.far q1 (by omega))
      clear K5
      have K5 := K5n
      clear K5n
      have HBn := Lib.hid (HB.out.trans (q1.2.1 _ (by omega)))
      clear HB
      have HB := HBn
      clear HBn
      clear q1 hS
      have hS := (And.intro KN.out (And.intro K3.out (And.intro K5.out HB.out)))
      clear hS
      refine wpAnyH_done (by kernel_rfl) ?_ _
      go_wp2_with fail
      refine bodyPost_ret (v := .pointer (some ⟨N7, 0, none⟩)) (by simp [results, Try.f73, go_sem]) rfl ?_
      exact ⟨N7, rfl, le_HB_N7, KA.out, HB.out⟩
    · skip
      intro W5 k1 b1 s1
      refine ⟨⟨hS.1.below b1 hS.1.lt, hS.2.1.below b1 hS.2.1.lt, hS.2.2.trans (b1.mono hS.2.2.size)⟩, ?_⟩
      simp only [Act.put, List.setIfInBounds_toArray, List.set_cons_zero, List.set_cons_succ]
      have K5 := Lib.hid k1
      clear k1
      have lt_g0_M1 : g0 < M1 := by rw [← HM1.out]; exact KN.out.lt
      have lt_N1_M1 : N1 < M1 := by rw [← HM1.out]; exact K3.out.lt
      have le_HB_M1 : w.heap.size ≤ M1 := by rw [← HM1.out]; exact HB.out.size
      have KNn := Lib.hid (KN.out.below b1 KN.out.lt)
      clear KN
      have KN := KNn
      clear KNn
      have K3n := Lib.hid (K3.out.below b1 K3.out.lt)
      clear K3
      have K3 := K3n
      clear K3n
      have HBn := Lib.hid (HB.out.trans (b1.mono HB.out.size))
      clear HB
      have HB := HBn
      clear HBn
      clear b1 HM1 hS
      have hS := (And.intro KN.out (And.intro K3.out HB.out))
      refine takeC (i := 7) (some 16) 24 #[.agg (pvC fam n z), .int .i64 (L : Int)] (.tuple #[.agg (pvC fam (L : Int) (firstZ z L)), .int .i64 0]) (R := fun w' => Below W5.heap.size W5 w') rfl rfl (by kernel_rfl) (by rfl) (by go_simp) (HCU.out _) (fun w' hb => ⟨hS.1.below hb hS.1.lt, hS.2.1.below hb hS.2.1.lt, hS.2.2.trans (hb.mono hS.2.2.size)⟩) ?_
      intro W6 hb1 hS2
      simp only [Act.put, List.setIfInBounds_toArray, List.set_cons_zero, List.set_cons_succ]
      have K5n := Lib.hid (K5.out.below hb1 K5.out.lt)
      clear K5
      have K5 := K5n
      clear K5n
      clear KN
      clear K3
      clear HB
      clear hS
      have hS := hS2
      clear hS2
      have KN := Lib.hid hS.1
      have K3 := Lib.hid hS.2.1
      have HB := Lib.hid hS.2.2
      clear hb1
      refine takeY (i := 8) (some 8) (v := .tuple #[.agg (pvC fam (L : Int) (firstZ z L)), .int .i64 0]) rfl rfl (by kernel_rfl) (by kernel_rfl) (by kernel_rfl) (fun _ _ _ h => h) (by rfl) (fun w' hS => by go_simp) hS ?_
      simp only [Act.put, List.setIfInBounds_toArray, List.set_cons_zero, List.set_cons_succ]
      refine takeY (i := 9) (some 17) (v := .agg (pvC fam (L : Int) (firstZ z L))) rfl rfl (by kernel_rfl) (by kernel_rfl) (by kernel_rfl) (fun _ _ _ h => h) (by rfl) (fun w' hS => by go_simp) hS ?_
      simp only [Act.put, List.setIfInBounds_toArray, List.set_cons_zero, List.set_cons_succ]
      refine takeY (i := 10) (some 18) (v := .int .i64 0) rfl rfl (by kernel_rfl) (by kernel_rfl) (by kernel_rfl) (fun _ _ _ h => h) (by rfl) (fun w' hS => by go_simp) hS ?_
      simp only [Act.put, List.setIfInBounds_toArray, List.set_cons_zero, List.set_cons_succ]
      refine takeSt (i := 12) 32 (.tmp 5) (.tmp 17) M1 0 (.agg (pvC fam (L : Int) (firstZ z L))) (pvC fam (L : Int) (firstZ z L)) (pvC fam (L : Int) (firstZ z L)) rfl rfl (by kernel_rfl) (by rfl) rfl rfl rfl rfl info_pv (all_pv _ _ _) K5.out (Nat.le_of_ble_eq_true rfl) (pv_over _ _ _ _ _ _) ?_
      intro W7 q1
      refine ⟨⟨KN.out.far q1 (by omega), K3.out.far q1 (by omega), HB.out.trans (q1.2.1 _ (by omega))⟩, ?_⟩
      simp only [Act.put, List.setIfInBounds_toArray, List.set_cons_zero, List.set_cons_succ]
      have K5n : Hid (Blk 32 W7 M1 (pvC fam (L : Int) (firstZ z L))) := Lib.hid q1.1
      clear K5
      have K5 := K5n
      clear K5n
      have KNn := Lib.hid (KN.out.far q1 (by omega))
      clear KN
      have KN := KNn
      clear KNn
      have K3n := Lib.hid (K3.out.far q1 (by omega))
      clear K3
      have K3 := K3n
      clear K3n
      have HBn := Lib.hid (HB.out.trans (q1.2.1 _ (by omega)))
      clear HB
      have HB := HBn
      clear HBn
      clear q1 hS
      have hS := (And.intro KN.out (And.intro K3.out HB.out))
      refine takeY (i := 13) (some 6) (v := .int .i64 0) rfl rfl (by kernel_rfl) (by kernel_rfl) (by kernel_rfl) (fun _ _ _ h => h) (by rfl) (fun w' hS => by go_simp) hS ?_
      simp only [Act.put, List.setIfInBounds_toArray, List.set_cons_zero, List.set_cons_succ]
      clear hS
      refine wpAnyH_done (by kernel_rfl) ?_ _
      go_wp2_with (refine wpList_ld (op := ⟨some 19, _, _, _, _, _⟩) (by rfl) 32 (.tmp 5) rfl M1 0 rfl (pvC fam (L : Int) (firstZ z L)) _ K5.out.all Try.underlying32 rfl (hi_pv fam (L : Int) (firstZ z L)) ?_; refine Hid.out ?_)
      refine Lib.hid ?_
      go_wp2_with (refine wpList_v (op := ⟨some 20, _, _, _, _, _⟩) rfl (.agg (ndC fam L (firstZ z L) false 0 (.pointer none) (.pointer none))) (build_nd0 _ _ _ rfl fam L (firstZ z L) rfl _) ?_; refine Hid.out ?_)
      refine Lib.hid ?_
      obtain ⟨N8, hN8⟩ : ∃ N, W7.heap.size = N := ⟨_, rfl⟩
      have HN8 := Lib.hid hN8
      clear hN8
      go_wp2_with (refine wpList_box (op := ⟨some 21, _, _, _, _, _⟩) rfl 106 (.tmp 20) rfl (ndC fam L (firstZ z L) false 0 (.pointer none) (.pointer none)) rfl N8 HN8.out ?_; intro w8 k1 b1 s1; refine Hid.out ?_)
      refine Lib.hid ?_
      have KA := Lib.hid k1
      clear k1
      have lt_g0_N8 : g0 < N8 := by rw [← HN8.out]; exact KN.out.lt
      have lt_N1_N8 : N1 < N8 := by rw [← HN8.out]; exact K3.out.lt
      have lt_M1_N8 : M1 < N8 := by rw [← HN8.out]; exact K5.out.lt
      have le_HB_N8 : w.heap.size ≤ N8 := by rw [← HN8.out]; exact HB.out.size
      have KNn := Lib.hid (KN.out.below b1 KN.out.lt)
      clear KN
      have KN := KNn
      clear KNn
      have K3n := Lib.hid (K3.out.below b1 K3.out.lt)
      clear K3
      have K3 := K3n
      clear K3n
      have K5n := Lib.hid (K5.out.below b1 K5.out.lt)
      clear K5
      have K5 := K5n
      clear K5n
      have HBn := Lib.hid (HB.out.trans (b1.mono HB.out.size))
      clear HB
      have HB := HBn
      clear HBn
      clear b1 HN8
      go_wp2_with fail
      have KAd := Lib.hid KA.out.drew
      clear KA
      refine wp_region_held_drew (S := fun w' => Blk 106 w' g0 (ndC fam n' z' hb m a b) ∧ Blk 32 w' N1 (pvC fam n z) ∧ Blk 32 w' M1 (pvC fam (L : Int) (firstZ z L)) ∧ Below w.heap.size w w') (by kernel_rfl) ⟨KN.out, K3.out, K5.out, HB.out.drew⟩ (fun hS => ?_)
      generalize hW9 : w8.drew = W9 at hS KAd ⊢
      clear hW9
      clear KN
      clear K3
      clear K5
      clear HB
      have KA := KAd
      clear KAd
      have KN := Lib.hid hS.1
      have K3 := Lib.hid hS.2.1
      have K5 := Lib.hid hS.2.2.1
      have HB := Lib.hid hS.2.2.2
      refine takeY (i := 0) (some 22) (v := .pointer (some ⟨N8, 0, none⟩)) rfl rfl (by kernel_rfl) (by kernel_rfl) (by kernel_rfl) (fun _ _ _ h => h) (by rfl) (fun w' hS => by clear hS; go_simp) hS ?_
      simp only [Act.put, List.setIfInBounds_toArray, List.set_cons_zero, List.set_cons_succ]
      refine takeY (i := 1) (some 23) (v := .pointer (some ⟨N8, 0, none⟩)) rfl rfl (by kernel_rfl) (by kernel_rfl) (by kernel_rfl) (fun _ _ _ h => h) (by rfl) (fun w' hS => by clear hS; go_simp) hS ?_
      simp only [Act.put, List.setIfInBounds_toArray, List.set_cons_zero, List.set_cons_succ]
      refine takeY (i := 2) (some 24) (v := .pointer (some ⟨g0, 0, none⟩)) rfl rfl (by kernel_rfl) (by kernel_rfl) (by kernel_rfl) (fun _ _ _ h => h) (by rfl) (fun w' hS => by clear hS; go_simp) hS ?_
      simp only [Act.put, List.setIfInBounds_toArray, List.set_cons_zero, List.set_cons_succ]
      refine takeY (i := 3) (some 25) (v := .pointer (some ⟨g0, 0, none⟩)) rfl rfl (by kernel_rfl) (by kernel_rfl) (by kernel_rfl) (fun _ _ _ h => h) (by rfl) (fun w' hS => by clear hS; go_simp) hS ?_
      simp only [Act.put, List.setIfInBounds_toArray, List.set_cons_zero, List.set_cons_succ]
      refine takeY (i := 4) (some 26) (v := .pointer (some ⟨g0, 0, none⟩)) rfl rfl (by kernel_rfl) (by kernel_rfl) (by kernel_rfl) (fun _ _ _ h => h) (by rfl) (fun w' hS => by clear hS; go_simp) hS ?_
      simp only [Act.put, List.setIfInBounds_toArray, List.set_cons_zero, List.set_cons_succ]
      refine takeL (i := 5) (some 27) 32 (.tmp 26) g0 0 (pvC fam n' z') _ rfl rfl (by kernel_rfl) (by kernel_rfl) (by kernel_rfl) (fun _ _ _ h => h) (by rfl) rfl rfl (fun w' hS => hS.1.ndpv) Try.underlying32 rfl (hi_pv fam (n' : Int) z') hS ?_
      simp only [Act.put, List.setIfInBounds_toArray, List.set_cons_zero, List.set_cons_succ]
      refine takeY (i := 7) (some 29) (v := .pointer (some ⟨g0, 0, none⟩)) rfl rfl (by kernel_rfl) (by kernel_rfl) (by kernel_rfl) (fun _ _ _ h => h) (by rfl) (fun w' hS => by clear hS; go_simp) hS ?_
      simp only [Act.put, List.setIfInBounds_toArray, List.set_cons_zero, List.set_cons_succ]
      refine takeY (i := 8) (some 30) (v := .pointer (some ⟨N8, 0, none⟩)) rfl rfl (by kernel_rfl) (by kernel_rfl) (by kernel_rfl) (fun _ _ _ h => h) (by rfl) (fun w' hS => by clear hS; go_simp) hS ?_
      simp only [Act.put, List.setIfInBounds_toArray, List.set_cons_zero, List.set_cons_succ]
      refine takeY (i := 9) (some 31) (v := .pointer (some ⟨N8, 20, none⟩)) rfl rfl (by kernel_rfl) (by kernel_rfl) (by kernel_rfl) (fun _ _ _ h => h) (by rfl) (fun w' hS => by clear hS; go_simp) hS ?_
      simp only [Act.put, List.setIfInBounds_toArray, List.set_cons_zero, List.set_cons_succ]
      refine takeC (i := 6) (some 28) 74 #[.pointer (some ⟨N8, 0, none⟩), .agg (pvC fam n' z')] (.int .u8 1) (R := fun w' => Below W9.heap.size W9 w') rfl rfl (by kernel_rfl) (by rfl) (by go_simp) (HSD.out N8 _ _ _ KA.out) (fun w' hb => ⟨hS.1.below hb hS.1.lt, hS.2.1.below hb hS.2.1.lt, hS.2.2.1.below hb hS.2.2.1.lt, hS.2.2.2.trans (hb.mono hS.2.2.2.size)⟩) (fun W10 hb1 hS2 => ?_)
      simp only [Act.put, List.setIfInBounds_toArray, List.set_cons_zero, List.set_cons_succ]
      have KAn := Lib.hid (KA.out.below hb1 KA.out.lt)
      clear KA
      have KA := KAn
      clear KAn
      clear KN
      clear K3
      clear K5
      clear HB
      clear hS hb1
      have hS := hS2
      clear hS2
      have KN := Lib.hid hS.1
      have K3 := Lib.hid hS.2.1
      have K5 := Lib.hid hS.2.2.1
      have HB := Lib.hid hS.2.2.2
      refine takeY (i := 10) (some 32) (v := .pointer (some ⟨N8, 21, none⟩)) rfl rfl (by kernel_rfl) (by kernel_rfl) (by kernel_rfl) (fun _ _ _ h => h) (by rfl) (fun w' hS => by clear hS; go_simp) hS ?_
      simp only [Act.put, List.setIfInBounds_toArray, List.set_cons_zero, List.set_cons_succ]
      refine takeSt (i := 11) 87 (.tmp 32) (.tmp 29) N8 21 (.pointer (some ⟨g0, 0, none⟩)) (#[.pointer (some ⟨g0, 0, none⟩)]) (ndC fam L (firstZ z L) false 0 (.pointer none) (.pointer (some ⟨g0, 0, none⟩))) rfl rfl (by kernel_rfl) (by rfl) rfl rfl rfl rfl info_p1 (by kernel_rfl) KA.out (Nat.le_of_ble_eq_true rfl) (nd_put21 _ _ _ _ _ _ _ _) ?_
      intro W11 q1
      refine ⟨⟨KN.out.far q1 (by omega), K3.out.far q1 (by omega), K5.out.far q1 (by omega), HB.out.trans (q1.2.1 _ (by omega))⟩, ?_⟩
      simp only [Act.put, List.setIfInBounds_toArray, List.set_cons_zero, List.set_cons_succ]
      have KAn : Hid (Blk 106 W11 N8 (ndC fam L (firstZ z L) false 0 (.pointer none) (.pointer (some ⟨g0, 0, none⟩)))) := Lib.hid q1.1
      clear KA
      have KA := KAn
      clear KAn
      have KNn := Lib.hid (KN.out.far q1 (by omega))
      clear KN
      have KN := KNn
      clear KNn
      have K3n := Lib.hid (K3.out.far q1 (by omega))
      clear K3
      have K3 := K3n
      clear K3n
      have K5n := Lib.hid (K5.out.far q1 (by omega))
      clear K5
      have K5 := K5n
      clear K5n
      have HBn := Lib.hid (HB.out.trans (q1.2.1 _ (by omega)))
      clear HB
      have HB := HBn
      clear HBn
      clear q1 hS
      have hS := (And.intro KN.out (And.intro K3.out (And.intro K5.out HB.out)))
      clear hS
      refine wpAnyH_done (by kernel_rfl) ?_ _
      go_wp2_with fail
      refine bodyPost_ret (v := .pointer (some ⟨N8, 0, none⟩)) (by simp [results, Try.f73, go_sem]) rfl ?_
      exact ⟨N8, rfl, le_HB_N8, KA.out, HB.out⟩
  · skip
    intro W4 k1 b1 s1
    refine ⟨⟨hS.1.below b1 hS.1.lt, hS.2.1.below b1 hS.2.1.lt, hS.2.2.trans (b1.mono hS.2.2.size)⟩, ?_⟩
    simp only [Act.put, List.setIfInBounds_toArray, List.set_cons_zero, List.set_cons_succ]
    have K5 := Lib.hid k1
    clear k1
    have lt_g0_M0 : g0 < M0 := by rw [← HM0.out]; exact KN.out.lt
    have lt_N1_M0 : N1 < M0 := by rw [← HM0.out]; exact K3.out.lt
    have le_HB_M0 : w.heap.size ≤ M0 := by rw [← HM0.out]; exact HB.out.size
    have KNn := Lib.hid (KN.out.below b1 KN.out.lt)
    clear KN
    have KN := KNn
    clear KNn
    have K3n := Lib.hid (K3.out.below b1 K3.out.lt)
    clear K3
    have K3 := K3n
    clear K3n
    have HBn := Lib.hid (HB.out.trans (b1.mono HB.out.size))
    clear HB
    have HB := HBn
    clear HBn
    clear b1 HM0 hS
    have hS := (And.intro KN.out (And.intro K3.out HB.out))
    refine takeC (i := 6) (some 15) 83 #[.agg (pvC fam n' z'), .agg (pvC fam n z)] (.int .i64 (L : Int)) (R := fun w' => Below W4.heap.size W4 w') rfl rfl (by kernel_rfl) (by rfl) (by go_simp) (HSM.out _) (fun w' hb => ⟨hS.1.below hb hS.1.lt, hS.2.1.below hb hS.2.1.lt, hS.2.2.trans (hb.mono hS.2.2.size)⟩) ?_
    intro W5 hb1 hS2
    simp only [Act.put, List.setIfInBounds_toArray, List.set_cons_zero, List.set_cons_succ]
    have K5n := Lib.hid (K5.out.below hb1 K5.out.lt)
    clear K5
    have K5 := K5n
    clear K5n
    clear KN
    clear K3
    clear HB
    clear hS
    have hS := hS2
    clear hS2
    have KN := Lib.hid hS.1
    have K3 := Lib.hid hS.2.1
    have HB := Lib.hid hS.2.2
    clear hb1
    refine takeC (i := 7) (some 16) 24 #[.agg (pvC fam n z), .int .i64 (L : Int)] (.tuple #[.agg (pvC fam (L : Int) (firstZ z L)), .int .i64 0]) (R := fun w' => Below W5.heap.size W5 w') rfl rfl (by kernel_rfl) (by rfl) (by go_simp) (HCU.out _) (fun w' hb => ⟨hS.1.below hb hS.1.lt, hS.2.1.below hb hS.2.1.lt, hS.2.2.trans (hb.mono hS.2.2.size)⟩) ?_
    intro W6 hb1 hS2
    simp only [Act.put, List.setIfInBounds_toArray, List.set_cons_zero, List.set_cons_succ]
    have K5n := Lib.hid (K5.out.below hb1 K5.out.lt)
    clear K5
    have K5 := K5n
    clear K5n
    clear KN
    clear K3
    clear HB
    clear hS
    have hS := hS2
    clear hS2
    have KN := Lib.hid hS.1
    have K3 := Lib.hid hS.2.1
    have HB := Lib.hid hS.2.2
    clear hb1
    refine takeY (i := 8) (some 8) (v := .tuple #[.agg (pvC fam (L : Int) (firstZ z L)), .int .i64 0]) rfl rfl (by kernel_rfl) (by kernel_rfl) (by kernel_rfl) (fun _ _ _ h => h) (by rfl) (fun w' hS => by go_simp) hS ?_
    simp only [Act.put, List.setIfInBounds_toArray, List.set_cons_zero, List.set_cons_succ]
    refine takeY (i := 9) (some 17) (v := .agg (pvC fam (L : Int) (firstZ z L))) rfl rfl (by kernel_rfl) (by kernel_rfl) (by kernel_rfl) (fun _ _ _ h => h) (by rfl) (fun w' hS => by go_simp) hS ?_
    simp only [Act.put, List.setIfInBounds_toArray, List.set_cons_zero, List.set_cons_succ]
    refine takeY (i := 10) (some 18) (v := .int .i64 0) rfl rfl (by kernel_rfl) (by kernel_rfl) (by kernel_rfl) (fun _ _ _ h => h) (by rfl) (fun w' hS => by go_simp) hS ?_
    simp only [Act.put, List.setIfInBounds_toArray, List.set_cons_zero, List.set_cons_succ]
    refine takeSt (i := 12) 32 (.tmp 5) (.tmp 17) M0 0 (.agg (pvC fam (L : Int) (firstZ z L))) (pvC fam (L : Int) (firstZ z L)) (pvC fam (L : Int) (firstZ z L)) rfl rfl (by kernel_rfl) (by rfl) rfl rfl rfl rfl info_pv (all_pv _ _ _) K5.out (Nat.le_of_ble_eq_true rfl) (pv_over _ _ _ _ _ _) ?_
    intro W7 q1
    refine ⟨⟨KN.out.far q1 (by omega), K3.out.far q1 (by omega), HB.out.trans (q1.2.1 _ (by omega))⟩, ?_⟩
    simp only [Act.put, List.setIfInBounds_toArray, List.set_cons_zero, List.set_cons_succ]
    have K5n : Hid (Blk 32 W7 M0 (pvC fam (L : Int) (firstZ z L))) := Lib.hid q1.1
    clear K5
    have K5 := K5n
    clear K5n
    have KNn := Lib.hid (KN.out.far q1 (by omega))
    clear KN
    have KN := KNn
    clear KNn
    have K3n := Lib.hid (K3.out.far q1 (by omega))
    clear K3
    have K3 := K3n
    clear K3n
    have HBn := Lib.hid (HB.out.trans (q1.2.1 _ (by omega)))
    clear HB
    have HB := HBn
    clear HBn
    clear q1 hS
    have hS := (And.intro KN.out (And.intro K3.out HB.out))
    refine takeY (i := 13) (some 6) (v := .int .i64 0) rfl rfl (by kernel_rfl) (by kernel_rfl) (by kernel_rfl) (fun _ _ _ h => h) (by rfl) (fun w' hS => by go_simp) hS ?_
    simp only [Act.put, List.setIfInBounds_toArray, List.set_cons_zero, List.set_cons_succ]
    clear hS
    refine wpAnyH_done (by kernel_rfl) ?_ _
    go_wp2_with (refine wpList_ld (op := ⟨some 19, _, _, _, _, _⟩) (by rfl) 32 (.tmp 5) rfl M0 0 rfl (pvC fam (L : Int) (firstZ z L)) _ K5.out.all Try.underlying32 rfl (hi_pv fam (L : Int) (firstZ z L)) ?_; refine Hid.out ?_)
    refine Lib.hid ?_
    go_wp2_with (refine wpList_v (op := ⟨some 20, _, _, _, _, _⟩) rfl (.agg (ndC fam L (firstZ z L) false 0 (.pointer none) (.pointer none))) (build_nd0 _ _ _ rfl fam L (firstZ z L) rfl _) ?_; refine Hid.out ?_)
    refine Lib.hid ?_
    obtain ⟨N8, hN8⟩ : ∃ N, W7.heap.size = N := ⟨_, rfl⟩
    have HN8 := Lib.hid hN8
    clear hN8
    go_wp2_with (refine wpList_box (op := ⟨some 21, _, _, _, _, _⟩) rfl 106 (.tmp 20) rfl (ndC fam L (firstZ z L) false 0 (.pointer none) (.pointer none)) rfl N8 HN8.out ?_; intro w8 k1 b1 s1; refine Hid.out ?_)
    refine Lib.hid ?_
    have KA := Lib.hid k1
    clear k1
    have lt_g0_N8 : g0 < N8 := by rw [← HN8.out]; exact KN.out.lt
    have lt_N1_N8 : N1 < N8 := by rw [← HN8.out]; exact K3.out.lt
    have lt_M0_N8 : M0 < N8 := by rw [← HN8.out]; exact K5.out.lt
    have le_HB_N8 : w.heap.size ≤ N8 := by rw [← HN8.out]; exact HB.out.size
    have KNn := Lib.hid (KN.out.below b1 KN.out.lt)
    clear KN
    have KN := KNn
    clear KNn
    have K3n := Lib.hid (K3.out.below b1 K3.out.lt)
    clear K3
    have K3 := K3n
    clear K3n
    have K5n := Lib.hid (K5.out.below b1 K5.out.lt)
    clear K5
    have K5 := K5n
    clear K5n
    have HBn := Lib.hid (HB.out.trans (b1.mono HB.out.size))
    clear HB
    have HB := HBn
    clear HBn
    clear b1 HN8
    go_wp2_with fail
    have KAd := Lib.hid KA.out.drew
    clear KA
    refine wp_region_held_drew (S := fun w' => Blk 106 w' g0 (ndC fam n' z' hb m a b) ∧ Blk 32 w' N1 (pvC fam n z) ∧ Blk 32 w' M0 (pvC fam (L : Int) (firstZ z L)) ∧ Below w.heap.size w w') (by kernel_rfl) ⟨KN.out, K3.out, K5.out, HB.out.drew⟩ (fun hS => ?_)
    generalize hW9 : w8.drew = W9 at hS KAd ⊢
    clear hW9
    clear KN
    clear K3
    clear K5
    clear HB
    have KA := KAd
    clear KAd
    have KN := Lib.hid hS.1
    have K3 := Lib.hid hS.2.1
    have K5 := Lib.hid hS.2.2.1
    have HB := Lib.hid hS.2.2.2
    refine takeY (i := 0) (some 22) (v := .pointer (some ⟨N8, 0, none⟩)) rfl rfl (by kernel_rfl) (by kernel_rfl) (by kernel_rfl) (fun _ _ _ h => h) (by rfl) (fun w' hS => by clear hS; go_simp) hS ?_
    simp only [Act.put, List.setIfInBounds_toArray, List.set_cons_zero, List.set_cons_succ]
    refine takeY (i := 1) (some 23) (v := .pointer (some ⟨N8, 0, none⟩)) rfl rfl (by kernel_rfl) (by kernel_rfl) (by kernel_rfl) (fun _ _ _ h => h) (by rfl) (fun w' hS => by clear hS; go_simp) hS ?_
    simp only [Act.put, List.setIfInBounds_toArray, List.set_cons_zero, List.set_cons_succ]
    refine takeY (i := 2) (some 24) (v := .pointer (some ⟨g0, 0, none⟩)) rfl rfl (by kernel_rfl) (by kernel_rfl) (by kernel_rfl) (fun _ _ _ h => h) (by rfl) (fun w' hS => by clear hS; go_simp) hS ?_
    simp only [Act.put, List.setIfInBounds_toArray, List.set_cons_zero, List.set_cons_succ]
    refine takeY (i := 3) (some 25) (v := .pointer (some ⟨g0, 0, none⟩)) rfl rfl (by kernel_rfl) (by kernel_rfl) (by kernel_rfl) (fun _ _ _ h => h) (by rfl) (fun w' hS => by clear hS; go_simp) hS ?_
    simp only [Act.put, List.setIfInBounds_toArray, List.set_cons_zero, List.set_cons_succ]
    refine takeY (i := 4) (some 26) (v := .pointer (some ⟨g0, 0, none⟩)) rfl rfl (by kernel_rfl) (by kernel_rfl) (by kernel_rfl) (fun _ _ _ h => h) (by rfl) (fun w' hS => by clear hS; go_simp) hS ?_
    simp only [Act.put, List.setIfInBounds_toArray, List.set_cons_zero, List.set_cons_succ]
    refine takeL (i := 5) (some 27) 32 (.tmp 26) g0 0 (pvC fam n' z') _ rfl rfl (by kernel_rfl) (by kernel_rfl) (by kernel_rfl) (fun _ _ _ h => h) (by rfl) rfl rfl (fun w' hS => hS.1.ndpv) Try.underlying32 rfl (hi_pv fam (n' : Int) z') hS ?_
    simp only [Act.put, List.setIfInBounds_toArray, List.set_cons_zero, List.set_cons_succ]
    refine takeY (i := 7) (some 29) (v := .pointer (some ⟨g0, 0, none⟩)) rfl rfl (by kernel_rfl) (by kernel_rfl) (by kernel_rfl) (fun _ _ _ h => h) (by rfl) (fun w' hS => by clear hS; go_simp) hS ?_
    simp only [Act.put, List.setIfInBounds_toArray, List.set_cons_zero, List.set_cons_succ]
    refine takeY (i := 8) (some 30) (v := .pointer (some ⟨N8, 0, none⟩)) rfl rfl (by kernel_rfl) (by kernel_rfl) (by kernel_rfl) (fun _ _ _ h => h) (by rfl) (fun w' hS => by clear hS; go_simp) hS ?_
    simp only [Act.put, List.setIfInBounds_toArray, List.set_cons_zero, List.set_cons_succ]
    refine takeY (i := 9) (some 31) (v := .pointer (some ⟨N8, 20, none⟩)) rfl rfl (by kernel_rfl) (by kernel_rfl) (by kernel_rfl) (fun _ _ _ h => h) (by rfl) (fun w' hS => by clear hS; go_simp) hS ?_
    simp only [Act.put, List.setIfInBounds_toArray, List.set_cons_zero, List.set_cons_succ]
    refine takeC (i := 6) (some 28) 74 #[.pointer (some ⟨N8, 0, none⟩), .agg (pvC fam n' z')] (.int .u8 1) (R := fun w' => Below W9.heap.size W9 w') rfl rfl (by kernel_rfl) (by rfl) (by go_simp) (HSD.out N8 _ _ _ KA.out) (fun w' hb => ⟨hS.1.below hb hS.1.lt, hS.2.1.below hb hS.2.1.lt, hS.2.2.1.below hb hS.2.2.1.lt, hS.2.2.2.trans (hb.mono hS.2.2.2.size)⟩) (fun W10 hb1 hS2 => ?_)
    simp only [Act.put, List.setIfInBounds_toArray, List.set_cons_zero, List.set_cons_succ]
    have KAn := Lib.hid (KA.out.below hb1 KA.out.lt)
    clear KA
    have KA := KAn
    clear KAn
    clear KN
    clear K3
    clear K5
    clear HB
    clear hS hb1
    have hS := hS2
    clear hS2
    have KN := Lib.hid hS.1
    have K3 := Lib.hid hS.2.1
    have K5 := Lib.hid hS.2.2.1
    have HB := Lib.hid hS.2.2.2
    refine takeY (i := 10) (some 32) (v := .pointer (some ⟨N8, 21, none⟩)) rfl rfl (by kernel_rfl) (by kernel_rfl) (by kernel_rfl) (fun _ _ _ h => h) (by rfl) (fun w' hS => by clear hS; go_simp) hS ?_
    simp only [Act.put, List.setIfInBounds_toArray, List.set_cons_zero, List.set_cons_succ]
    refine takeSt (i := 11) 87 (.tmp 32) (.tmp 29) N8 21 (.pointer (some ⟨g0, 0, none⟩)) (#[.pointer (some ⟨g0, 0, none⟩)]) (ndC fam L (firstZ z L) false 0 (.pointer none) (.pointer (some ⟨g0, 0, none⟩))) rfl rfl (by kernel_rfl) (by rfl) rfl rfl rfl rfl info_p1 (by kernel_rfl) KA.out (Nat.le_of_ble_eq_true rfl) (nd_put21 _ _ _ _ _ _ _ _) ?_
    intro W11 q1
    refine ⟨⟨KN.out.far q1 (by omega), K3.out.far q1 (by omega), K5.out.far q1 (by omega), HB.out.trans (q1.2.1 _ (by omega))⟩, ?_⟩
    simp only [Act.put, List.setIfInBounds_toArray, List.set_cons_zero, List.set_cons_succ]
    have KAn : Hid (Blk 106 W11 N8 (ndC fam L (firstZ z L) false 0 (.pointer none) (.pointer (some ⟨g0, 0, none⟩)))) := Lib.hid q1.1
    clear KA
    have KA := KAn
    clear KAn
    have KNn := Lib.hid (KN.out.far q1 (by omega))
    clear KN
    have KN := KNn
    clear KNn
    have K3n := Lib.hid (K3.out.far q1 (by omega))
    clear K3
    have K3 := K3n
    clear K3n
    have K5n := Lib.hid (K5.out.far q1 (by omega))
    clear K5
    have K5 := K5n
    clear K5n
    have HBn := Lib.hid (HB.out.trans (q1.2.1 _ (by omega)))
    clear HB
    have HB := HBn
    clear HBn
    clear q1 hS
    have hS := (And.intro KN.out (And.intro K3.out (And.intro K5.out HB.out)))
    clear hS
    refine wpAnyH_done (by kernel_rfl) ?_ _
    go_wp2_with fail
    refine bodyPost_ret (v := .pointer (some ⟨N8, 0, none⟩)) (by simp [results, Try.f73, go_sem]) rfl ?_
    exact ⟨N8, rfl, le_HB_N8, KA.out, HB.out⟩
set_option maxHeartbeats 16000000 in
set_option maxRecDepth 100000 in
theorem with_fork0 (g0 : Nat) (fam m v : Int) (n n' : Nat) (z z' : Nat → Int) (hb : Bool) (l r : Ht) (L : Nat) (hz : Bytes z) (hz' : Bytes z') (hs : Sized fam n) (hn : n ≤ 128) (hn' : n' ≤ 128) (he : ¬ ((n' : Int) = (n : Int) ∧ Same16 z' z)) (hc : ¬ btP n' z' <+: btP n z) (hL : Tr.lcp (btP n' z') (btP n z) = L) (hlt : L < n') (hsd : Tr.side (btP n' z') L = false) (w : World) (P : Value → World → Prop) (S : List Nat) (hS : ∀ k, k ∈ S → k < w.heap.size) (hrec : ∀ gA W, w.heap.size ≤ gA → Below w.heap.size w W → Blk 106 W gA (ndC fam L (firstZ z L) false 0 (.pointer (some ⟨g0, 0, none⟩)) (.pointer none)) → Calls Try.prog 44 #[.pointer (some ⟨gA, 0, none⟩), .agg (pvC fam n z), .int .i64 v] W (fun e w' => ∃ x, e = .returned x ∧ P x w' ∧ Kp (gA :: S) W w')) (hk : Blk 106 w g0 (ndC fam n' z' hb m l.root r.root)) :
    Calls Try.prog 44 #[.pointer (some ⟨g0, 0, none⟩), .agg (pvC fam n z), .int .i64 v] w fun e w' => ∃ x, e = .returned x ∧ P x w' := by
  have HZ := Lib.hid hz
  have HZ' := Lib.hid hz'
  have HE : Hid (∀ f, f = fam → decide (f = fam ∧ (n' : Int) = (n : Int) ∧ Same16 z' z) = false) := Lib.hid (fun f hf => decide_eq_false fun h => he h.2)
  have HC := Lib.hid (fun W hk => covers_nd g0 fam fam m n' n z' z hb l.root r.root hz' hz hn' hn W hk)
  rw [show decide (btP n' z' <+: btP n z) = false from decide_eq_false hc] at HC
  have HFK := Lib.hid (fun W hk => fork_0 g0 fam m n n' L z z' hb l.root r.root hz hz' hs hn hn' hL hlt hsd W hk)
  have HREC := Lib.hid hrec
  have HSS := Lib.hid hS
  have KN := Lib.hid hk
  clear hz hz' hs he hk hc hsd hrec hn hn' hlt hL hS
  go_enter Try.func44, Try.ntmps44
  have HB := Lib.hid (Below.refl w.heap.size w)
  obtain ⟨N1, hN1⟩ : ∃ N, w.heap.size = N := ⟨_, rfl⟩
  have HN1 := Lib.hid hN1
  clear hN1
  go_wp2_with (refine wpList_box (op := ⟨some 4, _, _, _, _, _⟩) rfl 32 (.tmp 1) rfl (pvC fam n z) rfl N1 HN1.out ?_; intro w1 k1 b1 s1; refine Hid.out ?_)
  refine Lib.hid ?_
  have K4 := Lib.hid k1
  clear k1
  have lt_g0_N1 : g0 < N1 := by rw [← HN1.out]; exact KN.out.lt
  have le_HB_N1 : w.heap.size ≤ N1 := by rw [← HN1.out]; exact HB.out.size
  have KNn := Lib.hid (KN.out.below b1 KN.out.lt)
  clear KN
  have KN := KNn
  clear KNn
  have HBn := Lib.hid (HB.out.trans (b1.mono HB.out.size))
  clear HB
  have HB := HBn
  clear HBn
  clear b1 HN1
  go_wp2_with fail
  refine wp_region_held_drew (S := fun w' => Blk 106 w' g0 (ndC fam n' z' hb m l.root r.root) ∧ Blk 32 w' N1 (pvC fam n z) ∧ Below w.heap.size w w') (by kernel_rfl) ⟨KN.out, K4.out, HB.out.drew⟩ (fun hS => ?_)
  generalize hW2 : w1.drew = W2 at hS  ⊢
  clear hW2
  clear KN
  clear K4
  clear HB
  have KN := Lib.hid hS.1
  have K4 := Lib.hid hS.2.1
  have HB := Lib.hid hS.2.2
  refine takeY (i := 0) (some 16) (v := .pointer (some ⟨g0, 0, none⟩)) rfl rfl (by kernel_rfl) (by kernel_rfl) (by kernel_rfl) (fun _ _ _ h => h) (by rfl) (fun w' hS => by clear hS; go_simp) hS ?_
  simp only [Act.put, List.setIfInBounds_toArray, List.set_cons_zero, List.set_cons_succ]
  refine takeY (i := 1) (some 17) (v := .pointer (some ⟨g0, 0, none⟩)) rfl rfl (by kernel_rfl) (by kernel_rfl) (by kernel_rfl) (fun _ _ _ h => h) (by rfl) (fun w' hS => by clear hS; go_simp) hS ?_
  simp only [Act.put, List.setIfInBounds_toArray, List.set_cons_zero, List.set_cons_succ]
  refine takeY (i := 2) (some 18) (v := .pointer (some ⟨g0, 0, none⟩)) rfl rfl (by kernel_rfl) (by kernel_rfl) (by kernel_rfl) (fun _ _ _ h => h) (by rfl) (fun w' hS => by clear hS; go_simp) hS ?_
  simp only [Act.put, List.setIfInBounds_toArray, List.set_cons_zero, List.set_cons_succ]
  refine takeL (i := 3) (some 19) 32 (.tmp 18) g0 0 (pvC fam n' z') _ rfl rfl (by kernel_rfl) (by kernel_rfl) (by kernel_rfl) (fun _ _ _ h => h) (by rfl) rfl rfl (fun w' hS => hS.1.ndpv) Try.underlying32 rfl (hi_pv fam (n' : Int) z') hS ?_
  simp only [Act.put, List.setIfInBounds_toArray, List.set_cons_zero, List.set_cons_succ]
  refine takeL (i := 4) (some 20) 32 (.tmp 4) N1 0 (pvC fam n z) _ rfl rfl (by kernel_rfl) (by kernel_rfl) (by kernel_rfl) (fun _ _ _ h => h) (by rfl) rfl rfl (fun w' hS => hS.2.1.all) Try.underlying32 rfl (hi_pv fam (n : Int) z) hS ?_
  simp only [Act.put, List.setIfInBounds_toArray, List.set_cons_zero, List.set_cons_succ]
  refine takeY (i := 5) (some 21) (v := .bool false) rfl rfl (by kernel_rfl) (by kernel_rfl) (by kernel_rfl) (fun _ _ _ h => h) (by rfl) (fun w' hS => by refine (eql_pv _ _ _ _ rfl fam (n' : Int) z' fam (n : Int) z HZ'.out HZ.out rfl rfl _).trans ?_; rw [HE.out fam rfl]) hS ?_
  simp only [Act.put, List.setIfInBounds_toArray, List.set_cons_zero, List.set_cons_succ]
  refine takeY (i := 6) (some 15) (v := .bool false) rfl rfl (by kernel_rfl) (by kernel_rfl) (by kernel_rfl) (fun _ _ _ h => h) (by rfl) (fun w' hS => by clear hS; go_simp) hS ?_
  simp only [Act.put, List.setIfInBounds_toArray, List.set_cons_zero, List.set_cons_succ]
  clear hS
  refine wpAnyH_done (by kernel_rfl) ?_ _
  go_wp2_with (refine wpList_ld (op := ⟨some 32, _, _, _, _, _⟩) (by rfl) 32 (.tmp 4) rfl N1 0 rfl (pvC fam n z) _ K4.out.all Try.underlying32 rfl (hi_pv fam (n : Int) z) ?_; refine Hid.out ?_)
  refine Lib.hid ?_
  go_wp2_with fail
  refine (HC.out _ KN.out).mono ?_
  rintro e w3 ⟨rfl, b1⟩
  have KNn := Lib.hid (KN.out.below b1 KN.out.lt)
  clear KN
  have KN := KNn
  clear KNn
  have K4n := Lib.hid (K4.out.below b1 K4.out.lt)
  clear K4
  have K4 := K4n
  clear K4n
  have HBn := Lib.hid (HB.out.trans (b1.mono HB.out.size))
  clear HB
  have HB := HBn
  clear HBn
  clear b1
  go_wp2_with fail
  have KNd := Lib.hid KN.out.drew
  have HBd := Lib.hid HB.out.drew
  clear KN HB
  refine wp_region_held_drew (S := fun w' => Blk 32 w' N1 (pvC fam n z)) (by kernel_rfl) K4.out (fun hS => ?_)
  generalize hW4 : w3.drew = W4 at hS KNd HBd ⊢
  clear hW4 K4
  have K4 := Lib.hid hS
  have KN := KNd
  have HB := HBd
  clear KNd HBd
  refine takeY (i := 0) (some 35) (v := .pointer (some ⟨g0, 0, none⟩)) rfl rfl (by kernel_rfl) (by kernel_rfl) (by kernel_rfl) (fun _ _ _ h => h) (by rfl) (fun w' hS => by clear hS; go_simp) hS ?_
  simp only [Act.put, List.setIfInBounds_toArray, List.set_cons_zero, List.set_cons_succ]
  refine takeL (i := 1) (some 36) 32 (.tmp 4) N1 0 (pvC fam n z) _ rfl rfl (by kernel_rfl) (by kernel_rfl) (by kernel_rfl) (fun _ _ _ h => h) (by rfl) rfl rfl (fun w' hS => hS.all) Try.underlying32 rfl (hi_pv fam (n : Int) z) hS ?_
  simp only [Act.put, List.setIfInBounds_toArray, List.set_cons_zero, List.set_cons_succ]
  refine takeL (i := 3) (some 38) 32 (.tmp 4) N1 0 (pvC fam n z) _ rfl rfl (by kernel_rfl) (by kernel_rfl) (by kernel_rfl) (fun _ _ _ h => h) (by rfl) rfl rfl (fun w' hS => hS.all) Try.underlying32 rfl (hi_pv fam (n : Int) z) hS ?_
  simp only [Act.put, List.setIfInBounds_toArray, List.set_cons_zero, List.set_cons_succ]
  refine takeY (i := 4) (some 39) (v := .int .i64 v) rfl rfl (by kernel_rfl) (by kernel_rfl) (by kernel_rfl) (fun _ _ _ h => h) (by rfl) (fun w' hS => by clear hS; go_simp) hS ?_
  simp only [Act.put, List.setIfInBounds_toArray, List.set_cons_zero, List.set_cons_succ]
  refine takeCE (i := 2) (some 37) 73 #[.pointer (some ⟨g0, 0, none⟩), .agg (pvC fam n z)] (R := fun x w' => ∃ gA, x = .pointer (some ⟨gA, 0, none⟩) ∧ W4.heap.size ≤ gA ∧ Blk 106 w' gA (ndC fam L (firstZ z L) false 0 (.pointer (some ⟨g0, 0, none⟩)) (.pointer none)) ∧ Below W4.heap.size W4 w') rfl rfl (by kernel_rfl) (by rfl) (by go_simp) ((HFK.out _ KN.out).mono (by rintro e w9 ⟨gA, rfl, h9⟩; exact ⟨_, rfl, gA, rfl, h9⟩)) (fun x w' h => by obtain ⟨gA, rfl, h1, h2, h3⟩ := h; exact hS.below h3 hS.lt) (fun x W8 h hS2 => ?_)
  obtain ⟨gA, rfl, h1, h2, h3⟩ := h
  simp only [Act.put, List.setIfInBounds_toArray, List.set_cons_zero, List.set_cons_succ]
  have HG1 : N1 < gA := Nat.lt_of_lt_of_le K4.out.lt h1
  have HG2 := Lib.hid (Nat.le_trans HB.out.size h1)
  have HB8 := Lib.hid (HB.out.trans (h3.mono HB.out.size))
  have KA := Lib.hid h2
  clear h1 h2 h3 KN K4 HB hS
  have hS := hS2
  clear hS2
  refine takeCE (i := 5) (some 40) 44 #[.pointer (some ⟨gA, 0, none⟩), .agg (pvC fam n z), .int .i64 v] (R := fun x w' => P x w' ∧ Kp (gA :: S) W8 w') rfl rfl (by kernel_rfl) (by rfl) (by go_simp) (HREC.out gA W8 HG2.out HB8.out KA.out) (fun x w' h => hS.kp h.2 (fun hx => by
    rcases List.mem_cons.1 hx with h9 | h9
    · omega
    · exact absurd (HSS.out _ h9) (by omega))) (fun x W9 h hS2 => ?_)
  obtain ⟨hP, _⟩ := h
  simp only [Act.put, List.setIfInBounds_toArray, List.set_cons_zero, List.set_cons_succ]
  have HP := Lib.hid hP
  clear hP hS
  have hS := hS2
  clear hS2
  refine takeY (i := 6) (some 6) (v := x) rfl rfl (by kernel_rfl) (by kernel_rfl) (by kernel_rfl) (fun _ _ _ h => h) (by rfl) (fun w' hS => by clear hS; go_simp) hS ?_
  simp only [Act.put, List.setIfInBounds_toArray, List.set_cons_zero, List.set_cons_succ]
  clear hS
  refine wpAnyH_done (by kernel_rfl) ?_ _
  go_wp2_with fail
  refine bodyPost_ret (v := x) (by simp [results, Try.f44, go_sem]) rfl ?_
  exact ⟨x, rfl, HP.out⟩
set_option maxHeartbeats 16000000 in
set_option maxRecDepth 100000 in
theorem with_fork1 (g0 : Nat) (fam m v : Int) (n n' : Nat) (z z' : Nat → Int) (hb : Bool) (l r : Ht) (L : Nat) (hz : Bytes z) (hz' : Bytes z') (hs : Sized fam n) (hn : n ≤ 128) (hn' : n' ≤ 128) (he : ¬ ((n' : Int) = (n : Int) ∧ Same16 z' z)) (hc : ¬ btP n' z' <+: btP n z) (hL : Tr.lcp (btP n' z') (btP n z) = L) (hlt : L < n') (hsd : Tr.side (btP n' z') L = true) (w : World) (P : Value → World → Prop) (S : List Nat) (hS : ∀ k, k ∈ S → k < w.heap.size) (hrec : ∀ gA W, w.heap.size ≤ gA → Below w.heap.size w W → Blk 106 W gA (ndC fam L (firstZ z L) false 0 (.pointer none) (.pointer (some ⟨g0, 0, none⟩))) → Calls Try.prog 44 #[.pointer (some ⟨gA, 0, none⟩), .agg (pvC fam n z), .int .i64 v] W (fun e w' => ∃ x, e = .returned x ∧ P x w' ∧ Kp (gA :: S) W w')) (hk : Blk 106 w g0 (ndC fam n' z' hb m l.root r.root)) :
    Calls Try.prog 44 #[.pointer (some ⟨g0, 0, none⟩), .agg (pvC fam n z), .int .i64 v] w fun e w' => ∃ x, e = .returned x ∧ P x w' := by
  have HZ := Lib.hid hz
  have HZ' := Lib.hid hz'
  have HE : Hid (∀ f, f = fam → decide (f = fam ∧ (n' : Int) = (n : Int) ∧ Same16 z' z) = false) := Lib.hid (fun f hf => decide_eq_false fun h => he h.2)
  have HC := Lib.hid (fun W hk => covers_nd g0 fam fam m n' n z' z hb l.root r.root hz' hz hn' hn W hk)
  rw [show decide (btP n' z' <+: btP n z) = false from decide_eq_false hc] at HC
  have HFK := Lib.hid (fun W hk => fork_1 g0 fam m n n' L z z' hb l.root r.root hz hz' hs hn hn' hL hlt hsd W hk)
  have HREC := Lib.hid hrec
  have HSS := Lib.hid hS
  have KN := Lib.hid hk
  clear hz hz' hs he hk hc hsd hrec hn hn' hlt hL hS
  go_enter Try.func44, Try.ntmps44
  have HB := Lib.hid (Below.refl w.heap.size w)
  obtain ⟨N1, hN1⟩ : ∃ N, w.heap.size = N := ⟨_, rfl⟩
  have HN1 := Lib.hid hN1
  clear hN1
  go_wp2_with (refine wpList_box (op := ⟨some 4, _, _, _, _, _⟩) rfl 32 (.tmp 1) rfl (pvC fam n z) rfl N1 HN1.out ?_; intro w1 k1 b1 s1; refine Hid.out ?_)
  refine Lib.hid ?_
  have K4 := Lib.hid k1
  clear k1
  have lt_g0_N1 : g0 < N1 := by rw [← HN1.out]; exact KN.out.lt
  have le_HB_N1 : w.heap.size ≤ N1 := by rw [← HN1.out]; exact HB.out.size
  have KNn := Lib.hid (KN.out.below b1 KN.out.lt)
  clear KN
  have KN := KNn
  clear KNn
  have HBn := Lib.hid (HB.out.trans (b1.mono HB.out.size))
  clear HB
  have HB := HBn
  clear HBn
  clear b1 HN1
  go_wp2_with fail
  refine wp_region_held_drew (S := fun w' => Blk 106 w' g0 (ndC fam n' z' hb m l.root r.root) ∧ Blk 32 w' N1 (pvC fam n z) ∧ Below w.heap.size w w') (by kernel_rfl) ⟨KN.out, K4.out, HB.out.drew⟩ (fun hS => ?_)
  generalize hW2 : w1.drew = W2 at hS  ⊢
  clear hW2
  clear KN
  clear K4
  clear HB
  have KN := Lib.hid hS.1
  have K4 := Lib.hid hS.2.1
  have HB := Lib.hid hS.2.2
  refine takeY (i := 0) (some 16) (v := .pointer (some ⟨g0, 0, none⟩)) rfl rfl (by kernel_rfl) (by kernel_rfl) (by kernel_rfl) (fun _ _ _ h => h) (by rfl) (fun w' hS => by clear hS; go_simp) hS ?_
  simp only [Act.put, List.setIfInBounds_toArray, List.set_cons_zero, List.set_cons_succ]
  refine takeY (i := 1) (some 17) (v := .pointer (some ⟨g0, 0, none⟩)) rfl rfl (by kernel_rfl) (by kernel_rfl) (by kernel_rfl) (fun _ _ _ h => h) (by rfl) (fun w' hS => by clear hS; go_simp) hS ?_
  simp only [Act.put, List.setIfInBounds_toArray, List.set_cons_zero, List.set_cons_succ]
  refine takeY (i := 2) (some 18) (v := .pointer (some ⟨g0, 0, none⟩)) rfl rfl (by kernel_rfl) (by kernel_rfl) (by kernel_rfl) (fun _ _ _ h => h) (by rfl) (fun w' hS => by clear hS; go_simp) hS ?_
  simp only [Act.put, List.setIfInBounds_toArray, List.set_cons_zero, List.set_cons_succ]
  refine takeL (i := 3) (some 19) 32 (.tmp 18) g0 0 (pvC fam n' z') _ rfl rfl (by kernel_rfl) (by kernel_rfl) (by kernel_rfl) (fun _ _ _ h => h) (by rfl) rfl rfl (fun w' hS => hS.1.ndpv) Try.underlying32 rfl (hi_pv fam (n' : Int) z') hS ?_
  simp only [Act.put, List.setIfInBounds_toArray, List.set_cons_zero, List.set_cons_succ]
  refine takeL (i := 4) (some 20) 32 (.tmp 4) N1 0 (pvC fam n z) _ rfl rfl (by kernel_rfl) (by kernel_rfl) (by kernel_rfl) (fun _ _ _ h => h) (by rfl) rfl rfl (fun w' hS => hS.2.1.all) Try.underlying32 rfl (hi_pv fam (n : Int) z) hS ?_
  simp only [Act.put, List.setIfInBounds_toArray, List.set_cons_zero, List.set_cons_succ]
  refine takeY (i := 5) (some 21) (v := .bool false) rfl rfl (by kernel_rfl) (by kernel_rfl) (by kernel_rfl) (fun _ _ _ h => h) (by rfl) (fun w' hS => by refine (eql_pv _ _ _ _ rfl fam (n' : Int) z' fam (n : Int) z HZ'.out HZ.out rfl rfl _).trans ?_; rw [HE.out fam rfl]) hS ?_
  simp only [Act.put, List.setIfInBounds_toArray, List.set_cons_zero, List.set_cons_succ]
  refine takeY (i := 6) (some 15) (v := .bool false) rfl rfl (by kernel_rfl) (by kernel_rfl) (by kernel_rfl) (fun _ _ _ h => h) (by rfl) (fun w' hS => by clear hS; go_simp) hS ?_
  simp only [Act.put, List.setIfInBounds_toArray, List.set_cons_zero, List.set_cons_succ]
  clear hS
  refine wpAnyH_done (by kernel_rfl) ?_ _
  go_wp2_with (refine wpList_ld (op := ⟨some 32, _, _, _, _, _⟩) (by rfl) 32 (.tmp 4) rfl N1 0 rfl (pvC fam n z) _ K4.out.all Try.underlying32 rfl (hi_pv fam (n : Int) z) ?_; refine Hid.out ?_)
  refine Lib.hid ?_
  go_wp2_with fail
  refine (HC.out _ KN.out).mono ?_
  rintro e w3 ⟨rfl, b1⟩
  have KNn := Lib.hid (KN.out.below b1 KN.out.lt)
  clear KN
  have KN := KNn
  clear KNn
  have K4n := Lib.hid (K4.out.below b1 K4.out.lt)
  clear K4
  have K4 := K4n
  clear K4n
  have HBn := Lib.hid (HB.out.trans (b1.mono HB.out.size))
  clear HB
  have HB := HBn
  clear HBn
  clear b1
  go_wp2_with fail
  have KNd := Lib.hid KN.out.drew
  have HBd := Lib.hid HB.out.drew
  clear KN HB
  refine wp_region_held_drew (S := fun w' => Blk 32 w' N1 (pvC fam n z)) (by kernel_rfl) K4.out (fun hS => ?_)
  generalize hW4 : w3.drew = W4 at hS KNd HBd ⊢
  clear hW4 K4
  have K4 := Lib.hid hS
  have KN := KNd
  have HB := HBd
  clear KNd HBd
  refine takeY (i := 0) (some 35) (v := .pointer (some ⟨g0, 0, none⟩)) rfl rfl (by kernel_rfl) (by kernel_rfl) (by kernel_rfl) (fun _ _ _ h => h) (by rfl) (fun w' hS => by clear hS; go_simp) hS ?_
  simp only [Act.put, List.setIfInBounds_toArray, List.set_cons_zero, List.set_cons_succ]
  refine takeL (i := 1) (some 36) 32 (.tmp 4) N1 0 (pvC fam n z) _ rfl rfl (by kernel_rfl) (by kernel_rfl) (by kernel_rfl) (fun _ _ _ h => h) (by rfl) rfl rfl (fun w' hS => hS.all) Try.underlying32 rfl (hi_pv fam (n : Int) z) hS ?_
  simp only [Act.put, List.setIfInBounds_toArray, List.set_cons_zero, List.set_cons_succ]
  refine takeL (i := 3) (some 38) 32 (.tmp 4) N1 0 (pvC fam n z) _ rfl rfl (by kernel_rfl) (by kernel_rfl) (by kernel_rfl) (fun _ _ _ h => h) (by rfl) rfl rfl (fun w' hS => hS.all) Try.underlying32 rfl (hi_pv fam (n : Int) z) hS ?_
  simp only [Act.put, List.setIfInBounds_toArray, List.set_cons_zero, List.set_cons_succ]
  refine takeY (i := 4) (some 39) (v := .int .i64 v) rfl rfl (by kernel_rfl) (by kernel_rfl) (by kernel_rfl) (fun _ _ _ h => h) (by rfl) (fun w' hS => by clear hS; go_simp) hS ?_
  simp only [Act.put, List.setIfInBounds_toArray, List.set_cons_zero, List.set_cons_succ]
  refine takeCE (i := 2) (some 37) 73 #[.pointer (some ⟨g0, 0, none⟩), .agg (pvC fam n z)] (R := fun x w' => ∃ gA, x = .pointer (some ⟨gA, 0, none⟩) ∧ W4.heap.size ≤ gA ∧ Blk 106 w' gA (ndC fam L (firstZ z L) false 0 (.pointer none) (.pointer (some ⟨g0, 0, none⟩))) ∧ Below W4.heap.size W4 w') rfl rfl (by kernel_rfl) (by rfl) (by go_simp) ((HFK.out _ KN.out).mono (by rintro e w9 ⟨gA, rfl, h9⟩; exact ⟨_, rfl, gA, rfl, h9⟩)) (fun x w' h => by obtain ⟨gA, rfl, h1, h2, h3⟩ := h; exact hS.below h3 hS.lt) (fun x W8 h hS2 => ?_)
  obtain ⟨gA, rfl, h1, h2, h3⟩ := h
  simp only [Act.put, List.setIfInBounds_toArray, List.set_cons_zero, List.set_cons_succ]
  have HG1 : N1 < gA := Nat.lt_of_lt_of_le K4.out.lt h1
  have HG2 := Lib.hid (Nat.le_trans HB.out.size h1)
  have HB8 := Lib.hid (HB.out.trans (h3.mono HB.out.size))
  have KA := Lib.hid h2
  clear h1 h2 h3 KN K4 HB hS
  have hS := hS2
  clear hS2
  refine takeCE (i := 5) (some 40) 44 #[.pointer (some ⟨gA, 0, none⟩), .agg (pvC fam n z), .int .i64 v] (R := fun x w' => P x w' ∧ Kp (gA :: S) W8 w') rfl rfl (by kernel_rfl) (by rfl) (by go_simp) (HREC.out gA W8 HG2.out HB8.out KA.out) (fun x w' h => hS.kp h.2 (fun hx => by
    rcases List.mem_cons.1 hx with h9 | h9
    · omega
    · exact absurd (HSS.out _ h9) (by omega))) (fun x W9 h hS2 => ?_)
  obtain ⟨hP, _⟩ := h
  simp only [Act.put, List.setIfInBounds_toArray, List.set_cons_zero, List.set_cons_succ]
  have HP := Lib.hid hP
  clear hP hS
  have hS := hS2
  clear hS2
  refine takeY (i := 6) (some 6) (v := x) rfl rfl (by kernel_rfl) (by kernel_rfl) (by kernel_rfl) (fun _ _ _ h => h) (by rfl) (fun w' hS => by clear hS; go_simp) hS ?_
  simp only [Act.put, List.setIfInBounds_toArray, List.set_cons_zero, List.set_cons_succ]
  clear hS
  refine wpAnyH_done (by kernel_rfl) ?_ _
  go_wp2_with fail
  refine bodyPost_ret (v := x) (by simp [results, Try.f44, go_sem]) rfl ?_
  exact ⟨x, rfl, HP.out⟩
end Go.Proofs.Ytjnbemopfhinbaa
