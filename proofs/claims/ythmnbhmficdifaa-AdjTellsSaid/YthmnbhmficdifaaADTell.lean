/- What a side tells, by the document; two hellos that are alike. Each theorem states its conditions. -/
import Derived.Test.YthmnbhmficdifaaATell
namespace Go.Proofs.Ythmnbhmficdifaa
open Go.RowKit
set_option linter.unusedVariables false

def DocTellP (w : World) (l : Lo) (a : Aj) (hold : Int) (e : Ending) (w' : World) : Prop :=
  (tellE l a hold ≠ 0 ∧ e = .returned (.tuple #[.agg (heC he0), .int .i64 (tellE l a hold)]) ∧ Below w.heap.size w w') ∨
  (tellE l a hold = 0 ∧ e = .returned (.tuple #[.agg (heC (tellH l a hold l.A l.c)), .int .i64 0]) ∧ Below w.heap.size w w')
theorem build_he0R (o : Oper) (e : Operand → Value) (ho : o.op = .build 30 #[]) (W : World) : (execOp e o).run Try.prog W = .ok (.value (.agg (heC he0))) W := by
  unfold execOp
  simp only [ho]
  kernel_rfl
theorem build_tellR (o : Oper) (e : Operand → Value) (x0 x1 x2 x3 x4 x5 : Operand) (ho : o.op = .build 30 #[(0, x0), (1, x1), (2, x2), (3, x3), (4, x4), (5, x5)]) (l : Lo) (st hold : Int) (A : Option Addr) (c : Nat)
    (h0 : e x0 = .agg (syC l.s)) (h1 : e x1 = .int .u8 l.nu) (h2 : e x2 = .int .i64 l.lv) (h3 : e x3 = .int .i64 hold) (h4 : e x4 = .slice A l.m c) (h5 : e x5 = .int .i64 st) (W : World) :
    (execOp e o).run Try.prog W = .ok (.value (.agg (heC (tell1 l st hold A c)))) W := by
  unfold execOp
  simp only [ho]
  simp only [List.map_toArray, List.map_cons, List.map_nil, h0, h1, h2, h3, h4, h5]
  kernel_rfl
set_option maxHeartbeats 20000000 in
set_option maxRecDepth 100000 in
theorem docTell_any (l : Lo) (a : Aj) (hold : Int) (w : World) (hm : l.m * 24 ≤ 140737488351232) :
    Calls Try.prog 17 #[.agg (loC l), .agg (ajC a), .int .i64 hold] w (DocTellP w l a hold) := by
  have HE : Hid (tellE l a hold = tellF (lvBad l.lv) (stBad a.st) (hoBad hold) (decide (3 < l.m))) := Lib.hid rfl
  obtain ⟨b1, hb1⟩ : ∃ b, lvBad l.lv = b := ⟨_, rfl⟩
  have D1 := Lib.hid (fun w => within_lv _ _ hb1 w)
  rw [hb1] at HE
  clear hb1
  obtain ⟨b2, hb2⟩ : ∃ b, stBad a.st = b := ⟨_, rfl⟩
  have D2 := Lib.hid (fun w => within_st _ _ hb2 w)
  have HS2 := Lib.hid hb2
  rw [hb2] at HE
  clear hb2
  obtain ⟨b3, hb3⟩ : ∃ b, hoBad hold = b := ⟨_, rfl⟩
  have D3 := Lib.hid (fun w => within_ho _ _ hb3 w)
  rw [hb3] at HE
  clear hb3
  go_enter Try.func17, Try.ntmps17
  have HB := Lib.hid (Below.refl w.heap.size w)
  obtain ⟨N1, hN1⟩ : ∃ N, w.heap.size = N := ⟨_, rfl⟩
  have HN1 := Lib.hid hN1
  clear hN1
  go_wp2_with (refine wpList_box (op := ⟨some 3, _, _, _, _, _⟩) rfl 26 (.tmp 0) rfl (loC l) rfl N1 HN1.out ?_; intro w1 k1 b1 s1; refine Hid.out ?_)
  refine Lib.hid ?_
  have K1 := Lib.hid k1
  clear k1
  have le_HB_N1 : w.heap.size ≤ N1 := by rw [← HN1.out]; exact HB.out.size
  have HBn := Lib.hid (HB.out.trans (b1.mono HB.out.size))
  clear HB
  have HB := HBn
  clear HBn
  clear b1 HN1
  obtain ⟨N2, hN2⟩ : ∃ N, w1.heap.size = N := ⟨_, rfl⟩
  have HN2 := Lib.hid hN2
  clear hN2
  go_wp2_with (refine wpList_box (op := ⟨some 4, _, _, _, _, _⟩) rfl 28 (.tmp 1) rfl (ajC a) rfl N2 HN2.out ?_; intro w2 k1 b1 s1; refine Hid.out ?_)
  refine Lib.hid ?_
  have K2 := Lib.hid k1
  clear k1
  have lt_N1_N2 : N1 < N2 := by rw [← HN2.out]; exact K1.out.lt
  have le_HB_N2 : w.heap.size ≤ N2 := by rw [← HN2.out]; exact HB.out.size
  have K1n := Lib.hid (K1.out.below b1 K1.out.lt)
  clear K1
  have K1 := K1n
  clear K1n
  have HBn := Lib.hid (HB.out.trans (b1.mono HB.out.size))
  clear HB
  have HB := HBn
  clear HBn
  clear b1 HN2
  obtain ⟨N3, hN3⟩ : ∃ N, w2.heap.size = N := ⟨_, rfl⟩
  have HN3 := Lib.hid hN3
  clear hN3
  go_wp2_with (refine wpList_new (op := ⟨some 6, _, _, _, _, _⟩) rfl 30 rfl (heC he0) zero_heR N3 HN3.out ?_; intro w3 k1 b1 s1; refine Hid.out ?_)
  refine Lib.hid ?_
  have K3 := Lib.hid k1
  clear k1
  have lt_N1_N3 : N1 < N3 := by rw [← HN3.out]; exact K1.out.lt
  have lt_N2_N3 : N2 < N3 := by rw [← HN3.out]; exact K2.out.lt
  have le_HB_N3 : w.heap.size ≤ N3 := by rw [← HN3.out]; exact HB.out.size
  have K1n := Lib.hid (K1.out.below b1 K1.out.lt)
  clear K1
  have K1 := K1n
  clear K1n
  have K2n := Lib.hid (K2.out.below b1 K2.out.lt)
  clear K2
  have K2 := K2n
  clear K2n
  have HBn := Lib.hid (HB.out.trans (b1.mono HB.out.size))
  clear HB
  have HB := HBn
  clear HBn
  clear b1 HN3
  have cK1_7 : w3.cell? ⟨N1, 7, none⟩ = some (.int .i64 l.lv) := (K1.out.cell 7).trans rfl
  have cK1_8 : w3.cell? ⟨N1, 8, none⟩ = some (.slice l.A l.m l.c) := (K1.out.cell 8).trans rfl
  have cK2_0 : w3.cell? ⟨N2, 0, none⟩ = some (.int .i64 a.st) := (K2.out.cell 0).trans rfl
  have cK1_6 : w3.cell? ⟨N1, 6, none⟩ = some (.int .u8 l.nu) := (K1.out.cell 6).trans rfl
  cases b1
  rotate_left
  · skip
    have HX : Hid (tellE l a hold = 1) := Lib.hid (by rw [HE.out]; first | rfl | simp [tellF] | (simp [tellF]; omega))
    clear HE HS2
    go_wp2_with (first | ((with_reducible refine (D1.out _).mono ?_); (rintro e wx ⟨rfl, rfl⟩)) | ((with_reducible refine (D2.out _).mono ?_); (rintro e wx ⟨rfl, rfl⟩)) | ((with_reducible refine (D3.out _).mono ?_); (rintro e wx ⟨rfl, rfl⟩)) | (refine wpList_v (op := ⟨some 24, _, _, _, _, _⟩) rfl _ (build_he0R _ _ rfl _) ?_; refine Hid.out ?_))
    refine Lib.hid ?_
    go_wp2_with (refine wpList_st rfl 30 (.tmp 6) (.tmp 24) rfl N3 0 rfl (.agg (heC he0)) (heC he0) rfl rfl info_heR (heC_one _) K3.out (Nat.le_of_ble_eq_true rfl) (C' := heC he0) (by kernel_rfl) ?_; intro w4 q1; refine Hid.out ?_)
    refine Lib.hid ?_
    have K1n := Lib.hid (K1.out.far q1 (by omega))
    clear K1
    have K1 := K1n
    clear K1n
    have K2n := Lib.hid (K2.out.far q1 (by omega))
    clear K2
    have K2 := K2n
    clear K2n
    have HBn := Lib.hid (HB.out.trans (q1.2.1 _ (by omega)))
    clear HB
    have HB := HBn
    clear HBn
    have K3n : Hid (Blk 30 w4 N3 (heC he0)) := Lib.hid q1.1
    clear K3
    have K3 := K3n
    clear K3n q1
    go_wp2_with fail
    exact bodyPost_ret (results_2 rfl _ w4 N3 (heC he0) (.int .i64 1) Try.underlying30 rfl info_heR rfl rfl K3.out) rfl (.inl ⟨by rw [HX.out]; decide, by rw [HX.out], HB.out⟩)
  cases b2
  rotate_left
  · skip
    have HX : Hid (tellE l a hold = 1) := Lib.hid (by rw [HE.out]; first | rfl | simp [tellF] | (simp [tellF]; omega))
    clear HE HS2
    go_wp2_with (first | ((with_reducible refine (D1.out _).mono ?_); (rintro e wx ⟨rfl, rfl⟩)) | ((with_reducible refine (D2.out _).mono ?_); (rintro e wx ⟨rfl, rfl⟩)) | ((with_reducible refine (D3.out _).mono ?_); (rintro e wx ⟨rfl, rfl⟩)) | (refine wpList_v (op := ⟨some 24, _, _, _, _, _⟩) rfl _ (build_he0R _ _ rfl _) ?_; refine Hid.out ?_))
    refine Lib.hid ?_
    go_wp2_with (refine wpList_st rfl 30 (.tmp 6) (.tmp 24) rfl N3 0 rfl (.agg (heC he0)) (heC he0) rfl rfl info_heR (heC_one _) K3.out (Nat.le_of_ble_eq_true rfl) (C' := heC he0) (by kernel_rfl) ?_; intro w4 q1; refine Hid.out ?_)
    refine Lib.hid ?_
    have K1n := Lib.hid (K1.out.far q1 (by omega))
    clear K1
    have K1 := K1n
    clear K1n
    have K2n := Lib.hid (K2.out.far q1 (by omega))
    clear K2
    have K2 := K2n
    clear K2n
    have HBn := Lib.hid (HB.out.trans (q1.2.1 _ (by omega)))
    clear HB
    have HB := HBn
    clear HBn
    have K3n : Hid (Blk 30 w4 N3 (heC he0)) := Lib.hid q1.1
    clear K3
    have K3 := K3n
    clear K3n q1
    go_wp2_with fail
    exact bodyPost_ret (results_2 rfl _ w4 N3 (heC he0) (.int .i64 1) Try.underlying30 rfl info_heR rfl rfl K3.out) rfl (.inl ⟨by rw [HX.out]; decide, by rw [HX.out], HB.out⟩)
  cases b3
  rotate_left
  · skip
    have HX : Hid (tellE l a hold = 1) := Lib.hid (by rw [HE.out]; first | rfl | simp [tellF] | (simp [tellF]; omega))
    clear HE HS2
    go_wp2_with (first | ((with_reducible refine (D1.out _).mono ?_); (rintro e wx ⟨rfl, rfl⟩)) | ((with_reducible refine (D2.out _).mono ?_); (rintro e wx ⟨rfl, rfl⟩)) | ((with_reducible refine (D3.out _).mono ?_); (rintro e wx ⟨rfl, rfl⟩)) | (refine wpList_v (op := ⟨some 24, _, _, _, _, _⟩) rfl _ (build_he0R _ _ rfl _) ?_; refine Hid.out ?_))
    refine Lib.hid ?_
    go_wp2_with (refine wpList_st rfl 30 (.tmp 6) (.tmp 24) rfl N3 0 rfl (.agg (heC he0)) (heC he0) rfl rfl info_heR (heC_one _) K3.out (Nat.le_of_ble_eq_true rfl) (C' := heC he0) (by kernel_rfl) ?_; intro w4 q1; refine Hid.out ?_)
    refine Lib.hid ?_
    have K1n := Lib.hid (K1.out.far q1 (by omega))
    clear K1
    have K1 := K1n
    clear K1n
    have K2n := Lib.hid (K2.out.far q1 (by omega))
    clear K2
    have K2 := K2n
    clear K2n
    have HBn := Lib.hid (HB.out.trans (q1.2.1 _ (by omega)))
    clear HB
    have HB := HBn
    clear HBn
    have K3n : Hid (Blk 30 w4 N3 (heC he0)) := Lib.hid q1.1
    clear K3
    have K3 := K3n
    clear K3n q1
    go_wp2_with fail
    exact bodyPost_ret (results_2 rfl _ w4 N3 (heC he0) (.int .i64 1) Try.underlying30 rfl info_heR rfl rfl K3.out) rfl (.inl ⟨by rw [HX.out]; decide, by rw [HX.out], HB.out⟩)
  by_cases n3 : 3 < l.m
  · skip
    rw [decide_eq_true n3] at HE
    have n3i : (3 : Int) < ((l.m : Nat) : Int) := by omega
    have HX : Hid (tellE l a hold = 2) := Lib.hid (by rw [HE.out]; first | rfl | simp [tellF] | (simp [tellF]; omega))
    clear HE HS2
    go_wp2_with (first | ((with_reducible refine (D1.out _).mono ?_); (rintro e wx ⟨rfl, rfl⟩)) | ((with_reducible refine (D2.out _).mono ?_); (rintro e wx ⟨rfl, rfl⟩)) | ((with_reducible refine (D3.out _).mono ?_); (rintro e wx ⟨rfl, rfl⟩)) | (refine wpList_v (op := ⟨some 29, _, _, _, _, _⟩) rfl _ (build_he0R _ _ rfl _) ?_; refine Hid.out ?_))
    refine Lib.hid ?_
    go_wp2_with (refine wpList_st rfl 30 (.tmp 6) (.tmp 29) rfl N3 0 rfl (.agg (heC he0)) (heC he0) rfl rfl info_heR (heC_one _) K3.out (Nat.le_of_ble_eq_true rfl) (C' := heC he0) (by kernel_rfl) ?_; intro w4 q1; refine Hid.out ?_)
    refine Lib.hid ?_
    have K1n := Lib.hid (K1.out.far q1 (by omega))
    clear K1
    have K1 := K1n
    clear K1n
    have K2n := Lib.hid (K2.out.far q1 (by omega))
    clear K2
    have K2 := K2n
    clear K2n
    have HBn := Lib.hid (HB.out.trans (q1.2.1 _ (by omega)))
    clear HB
    have HB := HBn
    clear HBn
    have K3n : Hid (Blk 30 w4 N3 (heC he0)) := Lib.hid q1.1
    clear K3
    have K3 := K3n
    clear K3n q1
    go_wp2_with fail
    exact bodyPost_ret (results_2 rfl _ w4 N3 (heC he0) (.int .i64 2) Try.underlying30 rfl info_heR rfl rfl K3.out) rfl (.inl ⟨by rw [HX.out]; decide, by rw [HX.out], HB.out⟩)
  rw [decide_eq_false n3] at HE
  have n3i : ¬ (3 : Int) < ((l.m : Nat) : Int) := by omega
  have HX : Hid (tellE l a hold = 0) := Lib.hid HE.out
  clear HE
  have hst : 0 ≤ a.st ∧ a.st ≤ 2 := by have := HS2.out; simp [stBad] at this; omega
  go_wp2_with (first | ((with_reducible refine (D1.out _).mono ?_); (rintro e wx ⟨rfl, rfl⟩)) | ((with_reducible refine (D2.out _).mono ?_); (rintro e wx ⟨rfl, rfl⟩)) | ((with_reducible refine (D3.out _).mono ?_); (rintro e wx ⟨rfl, rfl⟩)) | (refine wpList_ld (op := ⟨some 31, _, _, _, _, _⟩) (by rfl) 23 (.tmp 30) rfl N1 0 rfl (syC l.s) _ K1.out.los Try.underlying23 rfl info_sys ?_; refine Hid.out ?_))
  refine Lib.hid ?_
  go_wp2_with (refine wpList_v (op := ⟨some 41, _, _, _, _, _⟩) rfl _ (build_tellR _ _ _ _ _ _ _ _ rfl l a.st hold l.A l.c rfl rfl rfl rfl rfl rfl _) ?_; refine Hid.out ?_)
  refine Lib.hid ?_
  clear cK1_7 cK1_8 cK2_0 cK1_6 D1 D2 D3 n3 n3i HS2
  obtain ⟨N4, hN4⟩ : ∃ N, w3.heap.size = N := ⟨_, rfl⟩
  have HN4 := Lib.hid hN4
  clear hN4
  go_wp2_with (refine wpList_new (op := ⟨some 8, _, _, _, _, _⟩) rfl 30 rfl (heC he0) zero_heR N4 HN4.out ?_; intro w4 k1 b1 s1; refine Hid.out ?_)
  refine Lib.hid ?_
  have K8 := Lib.hid k1
  clear k1
  have lt_N1_N4 : N1 < N4 := by rw [← HN4.out]; exact K1.out.lt
  have lt_N2_N4 : N2 < N4 := by rw [← HN4.out]; exact K2.out.lt
  have lt_N3_N4 : N3 < N4 := by rw [← HN4.out]; exact K3.out.lt
  have le_HB_N4 : w.heap.size ≤ N4 := by rw [← HN4.out]; exact HB.out.size
  have K1n := Lib.hid (K1.out.below b1 K1.out.lt)
  clear K1
  have K1 := K1n
  clear K1n
  have K2n := Lib.hid (K2.out.below b1 K2.out.lt)
  clear K2
  have K2 := K2n
  clear K2n
  have K3n := Lib.hid (K3.out.below b1 K3.out.lt)
  clear K3
  have K3 := K3n
  clear K3n
  have HBn := Lib.hid (HB.out.trans (b1.mono HB.out.size))
  clear HB
  have HB := HBn
  clear HBn
  clear b1 HN4
  go_wp2_with (refine wpList_st rfl 30 (.tmp 8) (.tmp 41) rfl N4 0 rfl (.agg (heC (tell1 l a.st hold l.A l.c))) (heC (tell1 l a.st hold l.A l.c)) rfl rfl info_heR (heC_one _) K8.out (Nat.le_of_ble_eq_true rfl) (C' := heC (tell1 l a.st hold l.A l.c)) (by kernel_rfl) ?_; intro w5 q1; refine Hid.out ?_)
  refine Lib.hid ?_
  have K1n := Lib.hid (K1.out.far q1 (by omega))
  clear K1
  have K1 := K1n
  clear K1n
  have K2n := Lib.hid (K2.out.far q1 (by omega))
  clear K2
  have K2 := K2n
  clear K2n
  have K3n := Lib.hid (K3.out.far q1 (by omega))
  clear K3
  have K3 := K3n
  clear K3n
  have HBn := Lib.hid (HB.out.trans (q1.2.1 _ (by omega)))
  clear HB
  have HB := HBn
  clear HBn
  have K8n : Hid (Blk 30 w5 N4 (heC (tell1 l a.st hold l.A l.c))) := Lib.hid q1.1
  clear K8
  have K8 := K8n
  clear K8n q1
  have c0 : w5.cell? ⟨N2, 0, none⟩ = some (.int .i64 a.st) := (K2.out.cell 0).trans rfl
  by_cases h2 : a.st < 2
  · skip
    have htb : thB a.st = true := by rcases (by omega : a.st = 0 ∨ a.st = 1) with e | e <;> rw [e] <;> rfl
    have HTH : Hid (tellH l a hold l.A l.c = ⟨l.s, l.nu, l.lv, hold, l.A, l.m, l.c, a.st, true, a.p, a.nu⟩) := Lib.hid (by unfold tellH; rw [htb]; rfl)
    clear htb hst
    go_wp2_with fail
    clear c0 h2
    have K8d : Hid (Blk 30 w5.drew N4 (heC (tell1 l a.st hold l.A l.c))) := Lib.hid K8.out
    clear K8
    refine wp_region_held_drew (S := fun w' => Blk 26 w' N1 (loC l) ∧ Blk 28 w' N2 (ajC a) ∧ Blk 30 w' N3 (heC he0) ∧ Below w.heap.size w w') (by kernel_rfl) ⟨K1.out, K2.out, K3.out, HB.out.drew⟩ (fun hS => ?_)
    generalize hW6 : w5.drew = W6 at hS K8d ⊢
    clear hW6
    clear K1
    clear K2
    clear K3
    clear HB
    have K8 := K8d
    clear K8d
    have K1 := Lib.hid hS.1
    have K2 := Lib.hid hS.2.1
    have K3 := Lib.hid hS.2.2.1
    have HB := Lib.hid hS.2.2.2
    refine takeY (i := 0) (some 45) (v := .pointer (some ⟨N2, 1, none⟩)) rfl rfl (by kernel_rfl) (by kernel_rfl) (by kernel_rfl) (fun _ _ _ h => h) (by rfl) (fun w' hS => by go_simp) hS ?_
    simp only [Act.put, List.setIfInBounds_toArray, List.set_cons_zero, List.set_cons_succ]
    refine takeL (i := 1) (some 46) 23 (.tmp 45) N2 1 (syC a.p) _ rfl rfl (by kernel_rfl) (by kernel_rfl) (by kernel_rfl) (fun _ _ _ h => h) (by rfl) rfl rfl (fun w' hS => hS.2.1.ajp) Try.underlying23 rfl info_sys hS ?_
    simp only [Act.put, List.setIfInBounds_toArray, List.set_cons_zero, List.set_cons_succ]
    refine takeY (i := 2) (some 47) (v := .pointer (some ⟨N2, 7, none⟩)) rfl rfl (by kernel_rfl) (by kernel_rfl) (by kernel_rfl) (fun _ _ _ h => h) (by rfl) (fun w' hS => by go_simp) hS ?_
    simp only [Act.put, List.setIfInBounds_toArray, List.set_cons_zero, List.set_cons_succ]
    refine takeY (i := 3) (some 48) (v := .int .u8 a.nu) rfl rfl (by kernel_rfl) (by kernel_rfl) (by kernel_rfl) (fun _ _ _ h => h) (by rfl) (fun w' hS => by (have c9 : w'.cell? ⟨N2, 7, none⟩ = some (.int .u8 a.nu) := (hS.2.1.cell 7).trans rfl; clear hS; go_simp)) hS ?_
    simp only [Act.put, List.setIfInBounds_toArray, List.set_cons_zero, List.set_cons_succ]
    refine takeY (i := 4) (some 49) (v := .pointer (some ⟨N4, 11, none⟩)) rfl rfl (by kernel_rfl) (by kernel_rfl) (by kernel_rfl) (fun _ _ _ h => h) (by rfl) (fun w' hS => by go_simp) hS ?_
    simp only [Act.put, List.setIfInBounds_toArray, List.set_cons_zero, List.set_cons_succ]
    refine takeSt (i := 5) 4 (.tmp 49) (.const (.bool true)) N4 11 (.bool true) (#[.bool true]) (heC ⟨l.s, l.nu, l.lv, hold, l.A, l.m, l.c, a.st, true, z0, 0⟩) rfl rfl (by kernel_rfl) (by rfl) rfl rfl rfl rfl (by kernel_rfl) (by kernel_rfl) K8.out (Nat.le_of_ble_eq_true rfl) (by kernel_rfl) ?_
    intro W7 q1
    refine ⟨⟨K1.out.far q1 (by omega), K2.out.far q1 (by omega), K3.out.far q1 (by omega), HB.out.trans (q1.2.1 _ (by omega))⟩, ?_⟩
    simp only [Act.put, List.setIfInBounds_toArray, List.set_cons_zero, List.set_cons_succ]
    have K8n : Hid (Blk 30 W7 N4 (heC ⟨l.s, l.nu, l.lv, hold, l.A, l.m, l.c, a.st, true, z0, 0⟩)) := Lib.hid q1.1
    clear K8
    have K8 := K8n
    clear K8n
    have K1n := Lib.hid (K1.out.far q1 (by omega))
    clear K1
    have K1 := K1n
    clear K1n
    have K2n := Lib.hid (K2.out.far q1 (by omega))
    clear K2
    have K2 := K2n
    clear K2n
    have K3n := Lib.hid (K3.out.far q1 (by omega))
    clear K3
    have K3 := K3n
    clear K3n
    have HBn := Lib.hid (HB.out.trans (q1.2.1 _ (by omega)))
    clear HB
    have HB := HBn
    clear HBn
    clear q1 hS
    have hS := (And.intro K1.out (And.intro K2.out (And.intro K3.out HB.out)))
    refine takeY (i := 6) (some 50) (v := .pointer (some ⟨N4, 12, none⟩)) rfl rfl (by kernel_rfl) (by kernel_rfl) (by kernel_rfl) (fun _ _ _ h => h) (by rfl) (fun w' hS => by go_simp) hS ?_
    simp only [Act.put, List.setIfInBounds_toArray, List.set_cons_zero, List.set_cons_succ]
    refine takeSt (i := 7) 23 (.tmp 50) (.tmp 46) N4 12 (.agg (syC a.p)) (syC a.p) (heC ⟨l.s, l.nu, l.lv, hold, l.A, l.m, l.c, a.st, true, a.p, 0⟩) rfl rfl (by kernel_rfl) (by rfl) rfl rfl rfl rfl info_sys (syC_one _) K8.out (Nat.le_of_ble_eq_true rfl) (by kernel_rfl) ?_
    intro W8 q1
    refine ⟨⟨K1.out.far q1 (by omega), K2.out.far q1 (by omega), K3.out.far q1 (by omega), HB.out.trans (q1.2.1 _ (by omega))⟩, ?_⟩
    simp only [Act.put, List.setIfInBounds_toArray, List.set_cons_zero, List.set_cons_succ]
    have K8n : Hid (Blk 30 W8 N4 (heC ⟨l.s, l.nu, l.lv, hold, l.A, l.m, l.c, a.st, true, a.p, 0⟩)) := Lib.hid q1.1
    clear K8
    have K8 := K8n
    clear K8n
    have K1n := Lib.hid (K1.out.far q1 (by omega))
    clear K1
    have K1 := K1n
    clear K1n
    have K2n := Lib.hid (K2.out.far q1 (by omega))
    clear K2
    have K2 := K2n
    clear K2n
    have K3n := Lib.hid (K3.out.far q1 (by omega))
    clear K3
    have K3 := K3n
    clear K3n
    have HBn := Lib.hid (HB.out.trans (q1.2.1 _ (by omega)))
    clear HB
    have HB := HBn
    clear HBn
    clear q1 hS
    have hS := (And.intro K1.out (And.intro K2.out (And.intro K3.out HB.out)))
    refine takeY (i := 8) (some 51) (v := .pointer (some ⟨N4, 18, none⟩)) rfl rfl (by kernel_rfl) (by kernel_rfl) (by kernel_rfl) (fun _ _ _ h => h) (by rfl) (fun w' hS => by go_simp) hS ?_
    simp only [Act.put, List.setIfInBounds_toArray, List.set_cons_zero, List.set_cons_succ]
    refine takeSt (i := 9) 5 (.tmp 51) (.tmp 48) N4 18 (.int .u8 a.nu) (#[.int .u8 a.nu]) (heC ⟨l.s, l.nu, l.lv, hold, l.A, l.m, l.c, a.st, true, a.p, a.nu⟩) rfl rfl (by kernel_rfl) (by rfl) rfl rfl rfl rfl (by kernel_rfl) (by kernel_rfl) K8.out (Nat.le_of_ble_eq_true rfl) (by kernel_rfl) ?_
    intro W9 q1
    refine ⟨⟨K1.out.far q1 (by omega), K2.out.far q1 (by omega), K3.out.far q1 (by omega), HB.out.trans (q1.2.1 _ (by omega))⟩, ?_⟩
    simp only [Act.put, List.setIfInBounds_toArray, List.set_cons_zero, List.set_cons_succ]
    have K8n : Hid (Blk 30 W9 N4 (heC ⟨l.s, l.nu, l.lv, hold, l.A, l.m, l.c, a.st, true, a.p, a.nu⟩)) := Lib.hid q1.1
    clear K8
    have K8 := K8n
    clear K8n
    have K1n := Lib.hid (K1.out.far q1 (by omega))
    clear K1
    have K1 := K1n
    clear K1n
    have K2n := Lib.hid (K2.out.far q1 (by omega))
    clear K2
    have K2 := K2n
    clear K2n
    have K3n := Lib.hid (K3.out.far q1 (by omega))
    clear K3
    have K3 := K3n
    clear K3n
    have HBn := Lib.hid (HB.out.trans (q1.2.1 _ (by omega)))
    clear HB
    have HB := HBn
    clear HBn
    clear q1 hS
    have hS := (And.intro K1.out (And.intro K2.out (And.intro K3.out HB.out)))
    clear hS
    refine wpAnyH_done (by kernel_rfl) ?_ _
    go_wp2_with (refine wpList_ld (op := ⟨some 52, _, _, _, _, _⟩) (by rfl) 30 (.tmp 8) rfl N4 0 rfl (heC ⟨l.s, l.nu, l.lv, hold, l.A, l.m, l.c, a.st, true, a.p, a.nu⟩) _ K8.out.all Try.underlying30 rfl info_heR ?_; refine Hid.out ?_)
    refine Lib.hid ?_
    go_wp2_with (refine wpList_st rfl 30 (.tmp 6) (.tmp 52) rfl N3 0 rfl (.agg (heC ⟨l.s, l.nu, l.lv, hold, l.A, l.m, l.c, a.st, true, a.p, a.nu⟩)) (heC ⟨l.s, l.nu, l.lv, hold, l.A, l.m, l.c, a.st, true, a.p, a.nu⟩) rfl rfl info_heR (heC_one _) K3.out (Nat.le_of_ble_eq_true rfl) (C' := heC ⟨l.s, l.nu, l.lv, hold, l.A, l.m, l.c, a.st, true, a.p, a.nu⟩) (by kernel_rfl) ?_; intro w10 q1; refine Hid.out ?_)
    refine Lib.hid ?_
    have K1n := Lib.hid (K1.out.far q1 (by omega))
    clear K1
    have K1 := K1n
    clear K1n
    have K2n := Lib.hid (K2.out.far q1 (by omega))
    clear K2
    have K2 := K2n
    clear K2n
    have K8n := Lib.hid (K8.out.far q1 (by omega))
    clear K8
    have K8 := K8n
    clear K8n
    have HBn := Lib.hid (HB.out.trans (q1.2.1 _ (by omega)))
    clear HB
    have HB := HBn
    clear HBn
    have K3n : Hid (Blk 30 w10 N3 (heC ⟨l.s, l.nu, l.lv, hold, l.A, l.m, l.c, a.st, true, a.p, a.nu⟩)) := Lib.hid q1.1
    clear K3
    have K3 := K3n
    clear K3n q1
    go_wp2_with fail
    exact bodyPost_ret (results_2 rfl _ w10 N3 (heC ⟨l.s, l.nu, l.lv, hold, l.A, l.m, l.c, a.st, true, a.p, a.nu⟩) (.int .i64 0) Try.underlying30 rfl info_heR rfl rfl K3.out) rfl (.inr ⟨HX.out, by rw [show tellH l a hold l.A l.c = _ from HTH.out], HB.out⟩)
  · skip
    have htb : thB a.st = false := by rw [show a.st = 2 by omega]; rfl
    have HTH : Hid (tellH l a hold l.A l.c = tell1 l a.st hold l.A l.c) := Lib.hid (by unfold tellH tell1; rw [htb]; rfl)
    clear htb hst
    go_wp2_with (refine wpList_ld (op := ⟨some 52, _, _, _, _, _⟩) (by rfl) 30 (.tmp 8) rfl N4 0 rfl (heC (tell1 l a.st hold l.A l.c)) _ K8.out.all Try.underlying30 rfl info_heR ?_; refine Hid.out ?_)
    refine Lib.hid ?_
    go_wp2_with (refine wpList_st rfl 30 (.tmp 6) (.tmp 52) rfl N3 0 rfl (.agg (heC (tell1 l a.st hold l.A l.c))) (heC (tell1 l a.st hold l.A l.c)) rfl rfl info_heR (heC_one _) K3.out (Nat.le_of_ble_eq_true rfl) (C' := heC (tell1 l a.st hold l.A l.c)) (by kernel_rfl) ?_; intro w6 q1; refine Hid.out ?_)
    refine Lib.hid ?_
    have K1n := Lib.hid (K1.out.far q1 (by omega))
    clear K1
    have K1 := K1n
    clear K1n
    have K2n := Lib.hid (K2.out.far q1 (by omega))
    clear K2
    have K2 := K2n
    clear K2n
    have K8n := Lib.hid (K8.out.far q1 (by omega))
    clear K8
    have K8 := K8n
    clear K8n
    have HBn := Lib.hid (HB.out.trans (q1.2.1 _ (by omega)))
    clear HB
    have HB := HBn
    clear HBn
    have K3n : Hid (Blk 30 w6 N3 (heC (tell1 l a.st hold l.A l.c))) := Lib.hid q1.1
    clear K3
    have K3 := K3n
    clear K3n q1
    go_wp2_with fail
    exact bodyPost_ret (results_2 rfl _ w6 N3 (heC (tell1 l a.st hold l.A l.c)) (.int .i64 0) Try.underlying30 rfl info_heR rfl rfl K3.out) rfl (.inr ⟨HX.out, by rw [show tellH l a hold l.A l.c = _ from HTH.out], HB.out⟩)
set_option maxHeartbeats 20000000 in
set_option maxRecDepth 100000 in
theorem sameH_yes (h : He) (A B : Option Addr) (c d : Nat) (L L' : Nat → Sl) (w : World) (hs : byB h.s) (ht : byB h.th) (ha : RdS w A h.m L) (hb : RdS w B h.m L') (he : ∀ j, j < h.m → sameS (L j) (L' j)) (hm : h.m ≤ 9223372036854775807) :
    Calls Try.prog 18 #[.agg (heC ⟨h.s, h.nu, h.lv, h.ho, A, h.m, c, h.st, h.nm, h.th, h.tn⟩), .agg (heC ⟨h.s, h.nu, h.lv, h.ho, B, h.m, d, h.st, h.nm, h.th, h.tn⟩)] w fun e w' => e = .returned (.bool true) ∧ Below w.heap.size w w' := by
  have HA := Lib.hid ha
  have HBB := Lib.hid hb
  have HS := Lib.hid hs
  have HT := Lib.hid ht
  have HEE := Lib.hid he
  have HS6 : Hid (eqY h.s h.s = true) := Lib.hid (by unfold eqY; simp)
  have HT6 : Hid (eqY h.th h.th = true) := Lib.hid (by unfold eqY; simp)
  clear ha hb hs ht he
  go_enter Try.func18, Try.ntmps18
  have HB := Lib.hid (Below.refl w.heap.size w)
  obtain ⟨N1, hN1⟩ : ∃ N, w.heap.size = N := ⟨_, rfl⟩
  have HN1 := Lib.hid hN1
  clear hN1
  go_wp2_with (refine wpList_box (op := ⟨some 2, _, _, _, _, _⟩) rfl 30 (.tmp 0) rfl (heC ⟨h.s, h.nu, h.lv, h.ho, A, h.m, c, h.st, h.nm, h.th, h.tn⟩) rfl N1 HN1.out ?_; intro w1 k1 b1 s1; refine Hid.out ?_)
  refine Lib.hid ?_
  have K1 := Lib.hid k1
  clear k1
  have le_HB_N1 : w.heap.size ≤ N1 := by rw [← HN1.out]; exact HB.out.size
  have HBn := Lib.hid (HB.out.trans (b1.mono HB.out.size))
  clear HB
  have HB := HBn
  clear HBn
  clear b1 HN1
  obtain ⟨N2, hN2⟩ : ∃ N, w1.heap.size = N := ⟨_, rfl⟩
  have HN2 := Lib.hid hN2
  clear hN2
  go_wp2_with (refine wpList_box (op := ⟨some 3, _, _, _, _, _⟩) rfl 30 (.tmp 1) rfl (heC ⟨h.s, h.nu, h.lv, h.ho, B, h.m, d, h.st, h.nm, h.th, h.tn⟩) rfl N2 HN2.out ?_; intro w2 k1 b1 s1; refine Hid.out ?_)
  refine Lib.hid ?_
  have K2 := Lib.hid k1
  clear k1
  have lt_N1_N2 : N1 < N2 := by rw [← HN2.out]; exact K1.out.lt
  have le_HB_N2 : w.heap.size ≤ N2 := by rw [← HN2.out]; exact HB.out.size
  have K1n := Lib.hid (K1.out.below b1 K1.out.lt)
  clear K1
  have K1 := K1n
  clear K1n
  have HBn := Lib.hid (HB.out.trans (b1.mono HB.out.size))
  clear HB
  have HB := HBn
  clear HBn
  clear b1 HN2
  have cK1_6 : w2.cell? ⟨N1, 6, none⟩ = some (.int .u8 h.nu) := (K1.out.cell 6).trans rfl
  have cK1_7 : w2.cell? ⟨N1, 7, none⟩ = some (.int .i64 h.lv) := (K1.out.cell 7).trans rfl
  have cK1_8 : w2.cell? ⟨N1, 8, none⟩ = some (.int .i64 h.ho) := (K1.out.cell 8).trans rfl
  have cK1_9 : w2.cell? ⟨N1, 9, none⟩ = some (.slice A h.m c) := (K1.out.cell 9).trans rfl
  have cK1_10 : w2.cell? ⟨N1, 10, none⟩ = some (.int .i64 h.st) := (K1.out.cell 10).trans rfl
  have cK1_11 : w2.cell? ⟨N1, 11, none⟩ = some (.bool h.nm) := (K1.out.cell 11).trans rfl
  have cK1_18 : w2.cell? ⟨N1, 18, none⟩ = some (.int .u8 h.tn) := (K1.out.cell 18).trans rfl
  have cK2_6 : w2.cell? ⟨N2, 6, none⟩ = some (.int .u8 h.nu) := (K2.out.cell 6).trans rfl
  have cK2_7 : w2.cell? ⟨N2, 7, none⟩ = some (.int .i64 h.lv) := (K2.out.cell 7).trans rfl
  have cK2_8 : w2.cell? ⟨N2, 8, none⟩ = some (.int .i64 h.ho) := (K2.out.cell 8).trans rfl
  have cK2_9 : w2.cell? ⟨N2, 9, none⟩ = some (.slice B h.m d) := (K2.out.cell 9).trans rfl
  have cK2_10 : w2.cell? ⟨N2, 10, none⟩ = some (.int .i64 h.st) := (K2.out.cell 10).trans rfl
  have cK2_11 : w2.cell? ⟨N2, 11, none⟩ = some (.bool h.nm) := (K2.out.cell 11).trans rfl
  have cK2_18 : w2.cell? ⟨N2, 18, none⟩ = some (.int .u8 h.tn) := (K2.out.cell 18).trans rfl
  go_wp2_with (refine wpList_ld (op := ⟨some 6, _, _, _, _, _⟩) (by rfl) 23 (.tmp 5) rfl N1 0 rfl (syC h.s) _ K1.out.hes Try.underlying23 rfl info_sys ?_; refine Hid.out ?_)
  refine Lib.hid ?_
  go_wp2_with (refine wpList_ld (op := ⟨some 8, _, _, _, _, _⟩) (by rfl) 23 (.tmp 7) rfl N2 0 rfl (syC h.s) _ K2.out.hes Try.underlying23 rfl info_sys ?_; refine Hid.out ?_)
  refine Lib.hid ?_
  go_wp2_with (refine wpList_gv (op := ⟨some 9, _, _, _, _, _⟩) _ (by rfl) (sys_eql _ _ _ _ _ rfl rfl h.s h.s HS.out HS.out rfl rfl _ HS6.out _) ?_; refine Hid.out ?_)
  refine Lib.hid ?_
  go_wp2_with (refine wpList_ld (op := ⟨some 47, _, _, _, _, _⟩) (by rfl) 23 (.tmp 46) rfl N1 12 rfl (syC h.th) _ K1.out.het Try.underlying23 rfl info_sys ?_; refine Hid.out ?_)
  refine Lib.hid ?_
  go_wp2_with (refine wpList_ld (op := ⟨some 49, _, _, _, _, _⟩) (by rfl) 23 (.tmp 48) rfl N2 12 rfl (syC h.th) _ K2.out.het Try.underlying23 rfl info_sys ?_; refine Hid.out ?_)
  refine Lib.hid ?_
  go_wp2_with (refine wpList_gv (op := ⟨some 50, _, _, _, _, _⟩) _ (by rfl) (sys_eql _ _ _ _ _ rfl rfl h.th h.th HT.out HT.out rfl rfl _ HT6.out _) ?_; refine Hid.out ?_)
  refine Lib.hid ?_
  go_wp2_with fail
  refine (sameAreas_yes A B h.m c d L L' w2 (HA.out.below HB.out) (HBB.out.below HB.out) HEE.out hm).mono ?_
  rintro e wz ⟨rfl, r, hwz⟩
  have HBz : Hid (Below w.heap.size w wz) := Lib.hid (by rw [hwz]; exact bdrewN HB.out r)
  clear hwz
  go_wp2_with fail
  go_ret
  exact ⟨rfl, HBz.out⟩
end Go.Proofs.Ythmnbhmficdifaa
