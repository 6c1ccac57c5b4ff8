/- What a side tells, by the program and by the document. Each theorem states its conditions. -/
import Derived.Test.YthmnbhmficdifaaAExpR
namespace Go.Proofs.Ythmnbhmficdifaa
open Go.RowKit
set_option linter.unusedVariables false

theorem neL1 : (34 : TypeId) ≠ 49 := by decide
theorem neL2 : (34 : TypeId) ≠ 5 := by decide
/-- what a side tells -/
def tellH (l : Lo) (a : Aj) (hold : Int) (A : Option Addr) (c : Nat) : He := ⟨l.s, l.nu, l.lv, hold, A, l.m, c, a.st, thB a.st, if thB a.st then a.p else z0, if thB a.st then a.nu else 0⟩
def tellF (b1 b2 b3 b4 : Bool) : Int := if b1 || b2 || b3 then 1 else if b4 then 2 else 0
def tellE (l : Lo) (a : Aj) (hold : Int) : Int := tellF (lvBad l.lv) (stBad a.st) (hoBad hold) (decide (3 < l.m))
def TellP (w : World) (l : Lo) (a : Aj) (hold : Int) (L : Nat → Sl) (e : Ending) (w' : World) : Prop :=
  (tellE l a hold ≠ 0 ∧ e = .returned (.tuple #[.agg (heC he0), .int .i64 (tellE l a hold)]) ∧ Below w.heap.size w w') ∨
  (tellE l a hold = 0 ∧ ∃ A c L', e = .returned (.tuple #[.agg (heC (tellH l a hold A c)), .int .i64 0]) ∧ OwnS w' w.heap.size (.slice A l.m c) l.m L' ∧ (∀ j, j < l.m → sameS (L j) (L' j)) ∧ Below w.heap.size w w')
theorem build_he0 (o : Oper) (e : Operand → Value) (ho : o.op = .build 34 #[]) (W : World) : (execOp e o).run Try.prog W = .ok (.value (.agg (heC he0))) W := by
  unfold execOp
  simp only [ho]
  kernel_rfl
/-- the hello without the name of the other -/
def tell1 (l : Lo) (st hold : Int) (A : Option Addr) (c : Nat) : He := ⟨l.s, l.nu, l.lv, hold, A, l.m, c, st, false, z0, 0⟩
theorem build_tell (o : Oper) (e : Operand → Value) (x0 x1 x2 x3 x4 x5 : Operand) (ho : o.op = .build 34 #[(0, x0), (1, x1), (2, x2), (3, x3), (4, x4), (5, x5)]) (l : Lo) (st hold : Int) (A : Option Addr) (c : Nat)
    (h0 : e x0 = .agg (syC l.s)) (h1 : e x1 = .int .u8 l.nu) (h2 : e x2 = .int .i64 l.lv) (h3 : e x3 = .int .i64 hold) (h4 : e x4 = .slice A l.m c) (h5 : e x5 = .int .i64 st) (W : World) :
    (execOp e o).run Try.prog W = .ok (.value (.agg (heC (tell1 l st hold A c)))) W := by
  unfold execOp
  simp only [ho]
  simp only [List.map_toArray, List.map_cons, List.map_nil, h0, h1, h2, h3, h4, h5]
  kernel_rfl
set_option maxHeartbeats 20000000 in
set_option maxRecDepth 100000 in
theorem tell_any (l : Lo) (a : Aj) (hold : Int) (L : Nat → Sl) (w : World) (hL : RdS w l.A l.m L) (hm : l.m * 24 ≤ 140737488351232) :
    Calls Try.prog 16 #[.agg (loC l), .agg (ajC a), .int .i64 hold] w (TellP w l a hold L) := by
  have HE : Hid (tellE l a hold = tellF (lvBad l.lv) (stBad a.st) (hoBad hold) (decide (3 < l.m))) := Lib.hid rfl
  have HL := Lib.hid hL
  have HM := Lib.hid hm
  obtain ⟨b1, hb1⟩ : ∃ b, lvBad l.lv = b := ⟨_, rfl⟩
  have D1 := Lib.hid (fun w => isNoLevel_any _ _ hb1 w)
  rw [hb1] at HE
  clear hb1
  obtain ⟨b2, hb2⟩ : ∃ b, stBad a.st = b := ⟨_, rfl⟩
  have D2 := Lib.hid (fun w => isNoState_any _ _ hb2 w)
  rw [hb2] at HE
  clear hb2
  obtain ⟨b3, hb3⟩ : ∃ b, hoBad hold = b := ⟨_, rfl⟩
  have D3 := Lib.hid (fun w => isNoHold_any _ _ hb3 w)
  rw [hb3] at HE
  clear hb3
  obtain ⟨b, hb⟩ : ∃ b, thB a.st = b := ⟨_, rfl⟩
  have D4 := Lib.hid (fun w => isThere_any a _ hb w)
  have HTB := Lib.hid hb
  clear hb hL
  go_enter Try.func16, Try.ntmps16
  have HB := Lib.hid (Below.refl w.heap.size w)
  obtain ⟨N1, hN1⟩ : ∃ N, w.heap.size = N := ⟨_, rfl⟩
  have HN1 := Lib.hid hN1
  clear hN1
  go_wp2_with (refine wpList_box (op := ⟨some 3, _, _, _, _, _⟩) rfl 32 (.tmp 0) rfl (loC l) rfl N1 HN1.out ?_; intro w1 k1 b1 s1; refine Hid.out ?_)
  refine Lib.hid ?_
  have K1 := Lib.hid k1
  clear k1
  have le_HB_N1 : w.heap.size ≤ N1 := by rw [← HN1.out]; exact HB.out.size
  have HBn := Lib.hid (HB.out.trans (b1.mono HB.out.size))
  clear HB
  have HB := HBn
  clear HBn
  clear b1 HN1
  obtain ⟨N2, hN2⟩ : ∃ N, w1.heap.size = N := ⟨_, rfl⟩
  have HN2 := Lib.hid hN2
  clear hN2
  go_wp2_with (refine wpList_box (op := ⟨some 4, _, _, _, _, _⟩) rfl 36 (.tmp 1) rfl (ajC a) rfl N2 HN2.out ?_; intro w2 k1 b1 s1; refine Hid.out ?_)
  refine Lib.hid ?_
  have K2 := Lib.hid k1
  clear k1
  have lt_N1_N2 : N1 < N2 := by rw [← HN2.out]; exact K1.out.lt
  have le_HB_N2 : w.heap.size ≤ N2 := by rw [← HN2.out]; exact HB.out.size
  have K1n := Lib.hid (K1.out.below b1 K1.out.lt)
  clear K1
  have K1 := K1n
  clear K1n
  have HBn := Lib.hid (HB.out.trans (b1.mono HB.out.size))
  clear HB
  have HB := HBn
  clear HBn
  clear b1 HN2
  obtain ⟨N3, hN3⟩ : ∃ N, w2.heap.size = N := ⟨_, rfl⟩
  have HN3 := Lib.hid hN3
  clear hN3
  go_wp2_with (refine wpList_new (op := ⟨some 6, _, _, _, _, _⟩) rfl 34 rfl (heC he0) zero_heP N3 HN3.out ?_; intro w3 k1 b1 s1; refine Hid.out ?_)
  refine Lib.hid ?_
  have K3 := Lib.hid k1
  clear k1
  have lt_N1_N3 : N1 < N3 := by rw [← HN3.out]; exact K1.out.lt
  have lt_N2_N3 : N2 < N3 := by rw [← HN3.out]; exact K2.out.lt
  have le_HB_N3 : w.heap.size ≤ N3 := by rw [← HN3.out]; exact HB.out.size
  have K1n := Lib.hid (K1.out.below b1 K1.out.lt)
  clear K1
  have K1 := K1n
  clear K1n
  have K2n := Lib.hid (K2.out.below b1 K2.out.lt)
  clear K2
  have K2 := K2n
  clear K2n
  have HBn := Lib.hid (HB.out.trans (b1.mono HB.out.size))
  clear HB
  have HB := HBn
  clear HBn
  clear b1 HN3
  have cK1_7 : w3.cell? ⟨N1, 7, none⟩ = some (.int .i64 l.lv) := (K1.out.cell 7).trans rfl
  have cK1_8 : w3.cell? ⟨N1, 8, none⟩ = some (.slice l.A l.m l.c) := (K1.out.cell 8).trans rfl
  have cK2_0 : w3.cell? ⟨N2, 0, none⟩ = some (.int .i64 a.st) := (K2.out.cell 0).trans rfl
  cases b1
  rotate_left
  · skip
    have HX : Hid (tellE l a hold = 1) := Lib.hid (by rw [HE.out]; first | rfl | simp [tellF] | (simp [tellF]; omega))
    clear HE
    go_wp2_with (first | ((with_reducible refine (D1.out _).mono ?_); (rintro e wx ⟨rfl, rfl⟩)) | ((with_reducible refine (D2.out _).mono ?_); (rintro e wx ⟨rfl, rfl⟩)) | ((with_reducible refine (D3.out _).mono ?_); (rintro e wx ⟨rfl, rfl⟩)) | (refine wpList_v (op := ⟨some 22, _, _, _, _, _⟩) rfl _ (build_he0 _ _ rfl _) ?_; refine Hid.out ?_))
    refine Lib.hid ?_
    go_wp2_with (refine wpList_st rfl 34 (.tmp 6) (.tmp 22) rfl N3 0 rfl (.agg (heC he0)) (heC he0) rfl rfl info_heP (heC_one _) K3.out (Nat.le_of_ble_eq_true rfl) (C' := heC he0) (by kernel_rfl) ?_; intro w4 q1; refine Hid.out ?_)
    refine Lib.hid ?_
    have K1n := Lib.hid (K1.out.far q1 (by omega))
    clear K1
    have K1 := K1n
    clear K1n
    have K2n := Lib.hid (K2.out.far q1 (by omega))
    clear K2
    have K2 := K2n
    clear K2n
    have HBn := Lib.hid (HB.out.trans (q1.2.1 _ (by omega)))
    clear HB
    have HB := HBn
    clear HBn
    have K3n : Hid (Blk 34 w4 N3 (heC he0)) := Lib.hid q1.1
    clear K3
    have K3 := K3n
    clear K3n q1
    go_wp2_with fail
    exact bodyPost_ret (results_2 rfl _ w4 N3 (heC he0) (.int .i64 1) Try.underlying34 rfl info_heP rfl rfl K3.out) rfl (.inl ⟨by rw [HX.out]; decide, by rw [HX.out], HB.out⟩)
  cases b2
  rotate_left
  · skip
    have HX : Hid (tellE l a hold = 1) := Lib.hid (by rw [HE.out]; first | rfl | simp [tellF] | (simp [tellF]; omega))
    clear HE
    go_wp2_with (first | ((with_reducible refine (D1.out _).mono ?_); (rintro e wx ⟨rfl, rfl⟩)) | ((with_reducible refine (D2.out _).mono ?_); (rintro e wx ⟨rfl, rfl⟩)) | ((with_reducible refine (D3.out _).mono ?_); (rintro e wx ⟨rfl, rfl⟩)) | (refine wpList_v (op := ⟨some 22, _, _, _, _, _⟩) rfl _ (build_he0 _ _ rfl _) ?_; refine Hid.out ?_))
    refine Lib.hid ?_
    go_wp2_with (refine wpList_st rfl 34 (.tmp 6) (.tmp 22) rfl N3 0 rfl (.agg (heC he0)) (heC he0) rfl rfl info_heP (heC_one _) K3.out (Nat.le_of_ble_eq_true rfl) (C' := heC he0) (by kernel_rfl) ?_; intro w4 q1; refine Hid.out ?_)
    refine Lib.hid ?_
    have K1n := Lib.hid (K1.out.far q1 (by omega))
    clear K1
    have K1 := K1n
    clear K1n
    have K2n := Lib.hid (K2.out.far q1 (by omega))
    clear K2
    have K2 := K2n
    clear K2n
    have HBn := Lib.hid (HB.out.trans (q1.2.1 _ (by omega)))
    clear HB
    have HB := HBn
    clear HBn
    have K3n : Hid (Blk 34 w4 N3 (heC he0)) := Lib.hid q1.1
    clear K3
    have K3 := K3n
    clear K3n q1
    go_wp2_with fail
    exact bodyPost_ret (results_2 rfl _ w4 N3 (heC he0) (.int .i64 1) Try.underlying34 rfl info_heP rfl rfl K3.out) rfl (.inl ⟨by rw [HX.out]; decide, by rw [HX.out], HB.out⟩)
  cases b3
  rotate_left
  · skip
    have HX : Hid (tellE l a hold = 1) := Lib.hid (by rw [HE.out]; first | rfl | simp [tellF] | (simp [tellF]; omega))
    clear HE
    go_wp2_with (first | ((with_reducible refine (D1.out _).mono ?_); (rintro e wx ⟨rfl, rfl⟩)) | ((with_reducible refine (D2.out _).mono ?_); (rintro e wx ⟨rfl, rfl⟩)) | ((with_reducible refine (D3.out _).mono ?_); (rintro e wx ⟨rfl, rfl⟩)) | (refine wpList_v (op := ⟨some 22, _, _, _, _, _⟩) rfl _ (build_he0 _ _ rfl _) ?_; refine Hid.out ?_))
    refine Lib.hid ?_
    go_wp2_with (refine wpList_st rfl 34 (.tmp 6) (.tmp 22) rfl N3 0 rfl (.agg (heC he0)) (heC he0) rfl rfl info_heP (heC_one _) K3.out (Nat.le_of_ble_eq_true rfl) (C' := heC he0) (by kernel_rfl) ?_; intro w4 q1; refine Hid.out ?_)
    refine Lib.hid ?_
    have K1n := Lib.hid (K1.out.far q1 (by omega))
    clear K1
    have K1 := K1n
    clear K1n
    have K2n := Lib.hid (K2.out.far q1 (by omega))
    clear K2
    have K2 := K2n
    clear K2n
    have HBn := Lib.hid (HB.out.trans (q1.2.1 _ (by omega)))
    clear HB
    have HB := HBn
    clear HBn
    have K3n : Hid (Blk 34 w4 N3 (heC he0)) := Lib.hid q1.1
    clear K3
    have K3 := K3n
    clear K3n q1
    go_wp2_with fail
    exact bodyPost_ret (results_2 rfl _ w4 N3 (heC he0) (.int .i64 1) Try.underlying34 rfl info_heP rfl rfl K3.out) rfl (.inl ⟨by rw [HX.out]; decide, by rw [HX.out], HB.out⟩)
  by_cases n3 : 3 < l.m
  · skip
    rw [decide_eq_true n3] at HE
    have n3i : (3 : Int) < ((l.m : Nat) : Int) := by omega
    have HX : Hid (tellE l a hold = 2) := Lib.hid (by rw [HE.out]; first | rfl | simp [tellF] | (simp [tellF]; omega))
    clear HE
    go_wp2_with (first | ((with_reducible refine (D1.out _).mono ?_); (rintro e wx ⟨rfl, rfl⟩)) | ((with_reducible refine (D2.out _).mono ?_); (rintro e wx ⟨rfl, rfl⟩)) | ((with_reducible refine (D3.out _).mono ?_); (rintro e wx ⟨rfl, rfl⟩)) | (refine wpList_v (op := ⟨some 28, _, _, _, _, _⟩) rfl _ (build_he0 _ _ rfl _) ?_; refine Hid.out ?_))
    refine Lib.hid ?_
    go_wp2_with (refine wpList_st rfl 34 (.tmp 6) (.tmp 28) rfl N3 0 rfl (.agg (heC he0)) (heC he0) rfl rfl info_heP (heC_one _) K3.out (Nat.le_of_ble_eq_true rfl) (C' := heC he0) (by kernel_rfl) ?_; intro w4 q1; refine Hid.out ?_)
    refine Lib.hid ?_
    have K1n := Lib.hid (K1.out.far q1 (by omega))
    clear K1
    have K1 := K1n
    clear K1n
    have K2n := Lib.hid (K2.out.far q1 (by omega))
    clear K2
    have K2 := K2n
    clear K2n
    have HBn := Lib.hid (HB.out.trans (q1.2.1 _ (by omega)))
    clear HB
    have HB := HBn
    clear HBn
    have K3n : Hid (Blk 34 w4 N3 (heC he0)) := Lib.hid q1.1
    clear K3
    have K3 := K3n
    clear K3n q1
    go_wp2_with fail
    exact bodyPost_ret (results_2 rfl _ w4 N3 (heC he0) (.int .i64 2) Try.underlying34 rfl info_heP rfl rfl K3.out) rfl (.inl ⟨by rw [HX.out]; decide, by rw [HX.out], HB.out⟩)
  rw [decide_eq_false n3] at HE
  have n3i : ¬ (3 : Int) < ((l.m : Nat) : Int) := by omega
  have HX : Hid (tellE l a hold = 0) := Lib.hid HE.out
  clear HE
  go_wp2_with (first | ((with_reducible refine (D1.out _).mono ?_); (rintro e wx ⟨rfl, rfl⟩)) | ((with_reducible refine (D2.out _).mono ?_); (rintro e wx ⟨rfl, rfl⟩)) | ((with_reducible refine (D3.out _).mono ?_); (rintro e wx ⟨rfl, rfl⟩)))
  clear cK1_7 cK1_8 cK2_0 D1 D2 D3 n3 n3i
  go_cut [8] (fun s8 wc => ∃ P A c L1, s8 = .pointer (some ⟨P, 0, none⟩) ∧ Hid (Blk 34 wc P (heC (tell1 l a.st hold A c))) ∧ Hid (OwnS wc w.heap.size (.slice A l.m c) l.m L1) ∧ Hid (∀ j, j < l.m → sameS (L j) (L1 j)) ∧ N1 < P ∧ Hid (Blk 32 wc N1 (loC l)) ∧ N2 < P ∧ Hid (Blk 36 wc N2 (ajC a)) ∧ N3 < P ∧ Hid (Blk 34 wc N3 (heC he0)) ∧ w.heap.size ≤ P ∧ Hid (Below w.heap.size w wc))
  case first =>
    refine wp_region_held_drew (S := fun w' => Blk 32 w' N1 (loC l) ∧ Blk 36 w' N2 (ajC a) ∧ Blk 34 w' N3 (heC he0) ∧ Below w.heap.size w w') (by kernel_rfl) ⟨K1.out, K2.out, K3.out, HB.out.drew⟩ (fun hS => ?_)
    generalize hW4 : w3.drew = W4 at hS ⊢
    clear hW4
    clear K1
    clear K2
    clear K3
    clear HB
    have K1 := Lib.hid hS.1
    have K2 := Lib.hid hS.2.1
    have K3 := Lib.hid hS.2.2.1
    have HB := Lib.hid hS.2.2.2
    refine takeY (i := 0) (some 29) (v := .pointer (some ⟨N1, 0, none⟩)) rfl rfl (by kernel_rfl) (by kernel_rfl) (by kernel_rfl) (fun _ _ _ h => h) (by rfl) (fun w' hS => by go_simp) hS ?_
    simp only [Act.put, List.setIfInBounds_toArray, List.set_cons_zero, List.set_cons_succ]
    refine takeL (i := 1) (some 30) 23 (.tmp 29) N1 0 (syC l.s) _ rfl rfl (by kernel_rfl) (by kernel_rfl) (by kernel_rfl) (fun _ _ _ h => h) (by rfl) rfl rfl (fun w' hS => hS.1.los) Try.underlying23 rfl info_sys hS ?_
    simp only [Act.put, List.setIfInBounds_toArray, List.set_cons_zero, List.set_cons_succ]
    refine takeY (i := 2) (some 31) (v := .pointer (some ⟨N1, 6, none⟩)) rfl rfl (by kernel_rfl) (by kernel_rfl) (by kernel_rfl) (fun _ _ _ h => h) (by rfl) (fun w' hS => by go_simp) hS ?_
    simp only [Act.put, List.setIfInBounds_toArray, List.set_cons_zero, List.set_cons_succ]
    refine takeY (i := 3) (some 32) (v := .int .u8 l.nu) rfl rfl (by kernel_rfl) (by kernel_rfl) (by kernel_rfl) (fun _ _ _ h => h) (by rfl) (fun w' hS => by (have c9 : w'.cell? ⟨N1, 6, none⟩ = some (.int .u8 l.nu) := (hS.1.cell 6).trans rfl; clear hS; go_simp)) hS ?_
    simp only [Act.put, List.setIfInBounds_toArray, List.set_cons_zero, List.set_cons_succ]
    refine takeY (i := 4) (some 33) (v := .pointer (some ⟨N1, 7, none⟩)) rfl rfl (by kernel_rfl) (by kernel_rfl) (by kernel_rfl) (fun _ _ _ h => h) (by rfl) (fun w' hS => by go_simp) hS ?_
    simp only [Act.put, List.setIfInBounds_toArray, List.set_cons_zero, List.set_cons_succ]
    refine takeY (i := 5) (some 34) (v := .int .i64 l.lv) rfl rfl (by kernel_rfl) (by kernel_rfl) (by kernel_rfl) (fun _ _ _ h => h) (by rfl) (fun w' hS => by (have c9 : w'.cell? ⟨N1, 7, none⟩ = some (.int .i64 l.lv) := (hS.1.cell 7).trans rfl; clear hS; go_simp)) hS ?_
    simp only [Act.put, List.setIfInBounds_toArray, List.set_cons_zero, List.set_cons_succ]
    refine takeY (i := 6) (some 35) (v := .int .i64 hold) rfl rfl (by kernel_rfl) (by kernel_rfl) (by kernel_rfl) (fun _ _ _ h => h) (by rfl) (fun w' hS => by go_simp) hS ?_
    simp only [Act.put, List.setIfInBounds_toArray, List.set_cons_zero, List.set_cons_succ]
    refine takeY (i := 7) (some 36) (v := .pointer (some ⟨N1, 8, none⟩)) rfl rfl (by kernel_rfl) (by kernel_rfl) (by kernel_rfl) (fun _ _ _ h => h) (by rfl) (fun w' hS => by go_simp) hS ?_
    simp only [Act.put, List.setIfInBounds_toArray, List.set_cons_zero, List.set_cons_succ]
    refine takeY (i := 8) (some 37) (v := .slice l.A l.m l.c) rfl rfl (by kernel_rfl) (by kernel_rfl) (by kernel_rfl) (fun _ _ _ h => h) (by rfl) (fun w' hS => by (have c9 : w'.cell? ⟨N1, 8, none⟩ = some (.slice l.A l.m l.c) := (hS.1.cell 8).trans rfl; clear hS; go_simp)) hS ?_
    simp only [Act.put, List.setIfInBounds_toArray, List.set_cons_zero, List.set_cons_succ]
    refine takeY (i := 10) (some 39) (v := .pointer (some ⟨N2, 0, none⟩)) rfl rfl (by kernel_rfl) (by kernel_rfl) (by kernel_rfl) (fun _ _ _ h => h) (by rfl) (fun w' hS => by go_simp) hS ?_
    simp only [Act.put, List.setIfInBounds_toArray, List.set_cons_zero, List.set_cons_succ]
    refine takeY (i := 11) (some 40) (v := .int .i64 a.st) rfl rfl (by kernel_rfl) (by kernel_rfl) (by kernel_rfl) (fun _ _ _ h => h) (by rfl) (fun w' hS => by (have c9 : w'.cell? ⟨N2, 0, none⟩ = some (.int .i64 a.st) := (hS.2.1.cell 0).trans rfl; clear hS; go_simp)) hS ?_
    simp only [Act.put, List.setIfInBounds_toArray, List.set_cons_zero, List.set_cons_succ]
    obtain ⟨M0, hM0⟩ : ∃ N, W4.heap.size = N := ⟨_, rfl⟩
    have HM0 := Lib.hid hM0
    clear hM0
    have HBS : Hid (w.heap.size ≤ W4.heap.size) := Lib.hid HB.out.size
    refine wpAnyH_ready (show Region.ready _ _ _ = [9, 13] from by kernel_rfl) (by simp) (consCE (i := 9) (some 38) 36 #[.slice l.A l.m l.c] (R := fun v w' => ∃ A c L', v = .slice A l.m c ∧ OwnS w' W4.heap.size v l.m L' ∧ (∀ j, j < l.m → sameS (L j) (L' j)) ∧ Below W4.heap.size W4 w') rfl rfl (by rfl) (by go_simp) ((copyAreas_any l.A l.m l.c L W4 (HL.out.below HB.out) HM.out).mono (fun e w' ⟨v, L', h1, h2, h3, h4⟩ => by obtain ⟨A, c, h5, _⟩ := h2.shape; exact ⟨v, h1, A, c, L', h5, h2, h3, h4⟩)) (fun v w' h => by obtain ⟨A, c, L1, rfl, ho1, hs1, hb1⟩ := h; exact ⟨hS.1.below hb1 hS.1.lt, hS.2.1.below hb1 hS.2.1.lt, hS.2.2.1.below hb1 hS.2.2.1.lt, hS.2.2.2.trans (hb1.mono hS.2.2.2.size)⟩) ?_ (consMk (i := 13) (some 8) 34 (heC he0) rfl rfl (by rfl) rfl zero_heP M0 HM0.out ?_ AllReadyH.nil))
    · skip
      clear HM0
      intro v W5 h hS2
      obtain ⟨A, c, L1, rfl, ho1, hs1, hb1⟩ := h
      simp only [Act.put, List.setIfInBounds_toArray, List.set_cons_zero, List.set_cons_succ]
      clear K1
      clear K2
      clear K3
      clear HB
      clear hS
      have hS := hS2
      clear hS2
      have K1 := Lib.hid hS.1
      have K2 := Lib.hid hS.2.1
      have K3 := Lib.hid hS.2.2.1
      have HB := Lib.hid hS.2.2.2
      have HXL := Lib.hid (ho1.base HBS.out)
      have HSL := Lib.hid hs1
      clear ho1 hs1 hb1
      refine takeY (i := 12) (some 41) (v := .agg (heC (tell1 l a.st hold A c))) rfl rfl (by kernel_rfl) (by kernel_rfl) (by kernel_rfl) (fun _ _ _ h => h) (by rfl) (fun w' hS => build_tell _ _ _ _ _ _ _ _ rfl l a.st hold A c rfl rfl rfl rfl rfl rfl w') hS ?_
      simp only [Act.put, List.setIfInBounds_toArray, List.set_cons_zero, List.set_cons_succ]
      obtain ⟨M1, hM1⟩ : ∃ N, W5.heap.size = N := ⟨_, rfl⟩
      have HM1 := Lib.hid hM1
      clear hM1
      refine takeMk (i := 13) (some 8) 34 (heC he0) rfl rfl (by kernel_rfl) (by rfl) rfl zero_heP M1 HM1.out ?_
      · skip
        intro W6 k1 b1 s1
        refine ⟨⟨hS.1.below b1 hS.1.lt, hS.2.1.below b1 hS.2.1.lt, hS.2.2.1.below b1 hS.2.2.1.lt, hS.2.2.2.trans (b1.mono hS.2.2.2.size)⟩, ?_⟩
        simp only [Act.put, List.setIfInBounds_toArray, List.set_cons_zero, List.set_cons_succ]
        have K8 := Lib.hid k1
        clear k1
        have lt_N1_M1 : N1 < M1 := by rw [← HM1.out]; exact K1.out.lt
        have lt_N2_M1 : N2 < M1 := by rw [← HM1.out]; exact K2.out.lt
        have lt_N3_M1 : N3 < M1 := by rw [← HM1.out]; exact K3.out.lt
        have le_HB_M1 : w.heap.size ≤ M1 := by rw [← HM1.out]; exact HB.out.size
        have HXLn := Lib.hid (HXL.out.below b1)
        clear HXL
        have HXL := HXLn
        clear HXLn
        have K1n := Lib.hid (K1.out.below b1 K1.out.lt)
        clear K1
        have K1 := K1n
        clear K1n
        have K2n := Lib.hid (K2.out.below b1 K2.out.lt)
        clear K2
        have K2 := K2n
        clear K2n
        have K3n := Lib.hid (K3.out.below b1 K3.out.lt)
        clear K3
        have K3 := K3n
        clear K3n
        have HBn := Lib.hid (HB.out.trans (b1.mono HB.out.size))
        clear HB
        have HB := HBn
        clear HBn
        clear b1 HM1 hS
        have hS := (And.intro K1.out (And.intro K2.out (And.intro K3.out HB.out)))
        refine takeSt (i := 14) 34 (.tmp 8) (.tmp 41) M1 0 (.agg (heC (tell1 l a.st hold A c))) (heC (tell1 l a.st hold A c)) (heC (tell1 l a.st hold A c)) rfl rfl (by kernel_rfl) (by rfl) rfl rfl rfl rfl info_heP (heC_one _) K8.out (Nat.le_of_ble_eq_true rfl) (by kernel_rfl) ?_
        intro W7 q1
        refine ⟨⟨K1.out.far q1 (by omega), K2.out.far q1 (by omega), K3.out.far q1 (by omega), HB.out.trans (q1.2.1 _ (by omega))⟩, ?_⟩
        simp only [Act.put, List.setIfInBounds_toArray, List.set_cons_zero, List.set_cons_succ]
        have HXLn := Lib.hid (HXL.out.farT K8.out neL1 neL2 q1)
        clear HXL
        have HXL := HXLn
        clear HXLn
        have K8n : Hid (Blk 34 W7 M1 (heC (tell1 l a.st hold A c))) := Lib.hid q1.1
        clear K8
        have K8 := K8n
        clear K8n
        have K1n := Lib.hid (K1.out.far q1 (by omega))
        clear K1
        have K1 := K1n
        clear K1n
        have K2n := Lib.hid (K2.out.far q1 (by omega))
        clear K2
        have K2 := K2n
        clear K2n
        have K3n := Lib.hid (K3.out.far q1 (by omega))
        clear K3
        have K3 := K3n
        clear K3n
        have HBn := Lib.hid (HB.out.trans (q1.2.1 _ (by omega)))
        clear HB
        have HB := HBn
        clear HBn
        clear q1 hS
        have hS := (And.intro K1.out (And.intro K2.out (And.intro K3.out HB.out)))
        clear hS
        refine wpAnyH_done (by kernel_rfl) ?_ _
        go_wp2_with fail
        go_meet
        case rel => exact ⟨M1, A, c, L1, rfl, K8, HXL, HSL, lt_N1_M1, K1, lt_N2_M1, K2, lt_N3_M1, K3, le_HB_M1, HB⟩
    · skip
      intro W5 k1 b1 s1
      refine ⟨⟨hS.1.below b1 hS.1.lt, hS.2.1.below b1 hS.2.1.lt, hS.2.2.1.below b1 hS.2.2.1.lt, hS.2.2.2.trans (b1.mono hS.2.2.2.size)⟩, ?_⟩
      simp only [Act.put, List.setIfInBounds_toArray, List.set_cons_zero, List.set_cons_succ]
      have K8 := Lib.hid k1
      clear k1
      have lt_N1_M0 : N1 < M0 := by rw [← HM0.out]; exact K1.out.lt
      have lt_N2_M0 : N2 < M0 := by rw [← HM0.out]; exact K2.out.lt
      have lt_N3_M0 : N3 < M0 := by rw [← HM0.out]; exact K3.out.lt
      have le_HB_M0 : w.heap.size ≤ M0 := by rw [← HM0.out]; exact HB.out.size
      have K1n := Lib.hid (K1.out.below b1 K1.out.lt)
      clear K1
      have K1 := K1n
      clear K1n
      have K2n := Lib.hid (K2.out.below b1 K2.out.lt)
      clear K2
      have K2 := K2n
      clear K2n
      have K3n := Lib.hid (K3.out.below b1 K3.out.lt)
      clear K3
      have K3 := K3n
      clear K3n
      have HBn := Lib.hid (HB.out.trans (b1.mono HB.out.size))
      clear HB
      have HB := HBn
      clear HBn
      clear b1 HM0 hS
      have hS := (And.intro K1.out (And.intro K2.out (And.intro K3.out HB.out)))
      have HBS : Hid (w.heap.size ≤ W5.heap.size) := Lib.hid HB.out.size
      refine takeCE (i := 9) (some 38) 36 #[.slice l.A l.m l.c] (R := fun v w' => ∃ A c L', v = .slice A l.m c ∧ OwnS w' W5.heap.size v l.m L' ∧ (∀ j, j < l.m → sameS (L j) (L' j)) ∧ Below W5.heap.size W5 w') rfl rfl (by kernel_rfl) (by rfl) (by go_simp) ((copyAreas_any l.A l.m l.c L W5 (HL.out.below HB.out) HM.out).mono (fun e w' ⟨v, L', h1, h2, h3, h4⟩ => by obtain ⟨A, c, h5, _⟩ := h2.shape; exact ⟨v, h1, A, c, L', h5, h2, h3, h4⟩)) (fun v w' h => by obtain ⟨A, c, L1, rfl, ho1, hs1, hb1⟩ := h; exact ⟨hS.1.below hb1 hS.1.lt, hS.2.1.below hb1 hS.2.1.lt, hS.2.2.1.below hb1 hS.2.2.1.lt, hS.2.2.2.trans (hb1.mono hS.2.2.2.size)⟩) ?_
      · skip
        intro v W6 h hS2
        obtain ⟨A, c, L1, rfl, ho1, hs1, hb1⟩ := h
        simp only [Act.put, List.setIfInBounds_toArray, List.set_cons_zero, List.set_cons_succ]
        have K8n := Lib.hid (K8.out.below hb1 K8.out.lt)
        clear K8
        have K8 := K8n
        clear K8n
        clear K1
        clear K2
        clear K3
        clear HB
        clear hS
        have hS := hS2
        clear hS2
        have K1 := Lib.hid hS.1
        have K2 := Lib.hid hS.2.1
        have K3 := Lib.hid hS.2.2.1
        have HB := Lib.hid hS.2.2.2
        have HXL := Lib.hid (ho1.base HBS.out)
        have HSL := Lib.hid hs1
        clear ho1 hs1 hb1
        refine takeY (i := 12) (some 41) (v := .agg (heC (tell1 l a.st hold A c))) rfl rfl (by kernel_rfl) (by kernel_rfl) (by kernel_rfl) (fun _ _ _ h => h) (by rfl) (fun w' hS => build_tell _ _ _ _ _ _ _ _ rfl l a.st hold A c rfl rfl rfl rfl rfl rfl w') hS ?_
        simp only [Act.put, List.setIfInBounds_toArray, List.set_cons_zero, List.set_cons_succ]
        refine takeSt (i := 14) 34 (.tmp 8) (.tmp 41) M0 0 (.agg (heC (tell1 l a.st hold A c))) (heC (tell1 l a.st hold A c)) (heC (tell1 l a.st hold A c)) rfl rfl (by kernel_rfl) (by rfl) rfl rfl rfl rfl info_heP (heC_one _) K8.out (Nat.le_of_ble_eq_true rfl) (by kernel_rfl) ?_
        intro W7 q1
        refine ⟨⟨K1.out.far q1 (by omega), K2.out.far q1 (by omega), K3.out.far q1 (by omega), HB.out.trans (q1.2.1 _ (by omega))⟩, ?_⟩
        simp only [Act.put, List.setIfInBounds_toArray, List.set_cons_zero, List.set_cons_succ]
        have HXLn := Lib.hid (HXL.out.farT K8.out neL1 neL2 q1)
        clear HXL
        have HXL := HXLn
        clear HXLn
        have K8n : Hid (Blk 34 W7 M0 (heC (tell1 l a.st hold A c))) := Lib.hid q1.1
        clear K8
        have K8 := K8n
        clear K8n
        have K1n := Lib.hid (K1.out.far q1 (by omega))
        clear K1
        have K1 := K1n
        clear K1n
        have K2n := Lib.hid (K2.out.far q1 (by omega))
        clear K2
        have K2 := K2n
        clear K2n
        have K3n := Lib.hid (K3.out.far q1 (by omega))
        clear K3
        have K3 := K3n
        clear K3n
        have HBn := Lib.hid (HB.out.trans (q1.2.1 _ (by omega)))
        clear HB
        have HB := HBn
        clear HBn
        clear q1 hS
        have hS := (And.intro K1.out (And.intro K2.out (And.intro K3.out HB.out)))
        clear hS
        refine wpAnyH_done (by kernel_rfl) ?_ _
        go_wp2_with fail
        go_meet
        case rel => exact ⟨M0, A, c, L1, rfl, K8, HXL, HSL, lt_N1_M0, K1, lt_N2_M0, K2, lt_N3_M0, K3, le_HB_M0, HB⟩
  case rest =>
  clear K1
  clear K2
  clear K3
  clear HB
  obtain ⟨P, A, c, L1, rfl, K8, HXL, HSL, lt_N1_P, K1, lt_N2_P, K2, lt_N3_P, K3, le_HB_P, HB⟩ := hcut
  obtain ⟨wd, rfl⟩ : ∃ wd, wd = wc := ⟨_, rfl⟩
  go_wp2_with (refine wpList_ld (op := ⟨some 42, _, _, _, _, _⟩) (by rfl) 36 (.tmp 4) rfl N2 0 rfl (ajC a) _ K2.out.all Try.underlying36 rfl info_ajP ?_; refine Hid.out ?_)
  refine Lib.hid ?_
  go_wp2_with fail
  refine (D4.out _).mono ?_
  rintro e w4 ⟨rfl, b1⟩
  have K1n := Lib.hid (K1.out.below b1 K1.out.lt)
  clear K1
  have K1 := K1n
  clear K1n
  have K2n := Lib.hid (K2.out.below b1 K2.out.lt)
  clear K2
  have K2 := K2n
  clear K2n
  have K3n := Lib.hid (K3.out.below b1 K3.out.lt)
  clear K3
  have K3 := K3n
  clear K3n
  have K8n := Lib.hid (K8.out.below b1 K8.out.lt)
  clear K8
  have K8 := K8n
  clear K8n
  have HXLn := Lib.hid (HXL.out.below b1)
  clear HXL
  have HXL := HXLn
  clear HXLn
  have HBn := Lib.hid (HB.out.trans (b1.mono HB.out.size))
  clear HB
  have HB := HBn
  clear HBn
  clear b1 D4
  cases b
  · skip
    have HTH : Hid (tellH l a hold A c = tell1 l a.st hold A c) := Lib.hid (by unfold tellH tell1; rw [HTB.out]; rfl)
    go_wp2_with (refine wpList_ld (op := ⟨some 51, _, _, _, _, _⟩) (by rfl) 34 (.tmp 8) rfl P 0 rfl (heC (tell1 l a.st hold A c)) _ K8.out.all Try.underlying34 rfl info_heP ?_; refine Hid.out ?_)
    refine Lib.hid ?_
    go_wp2_with (refine wpList_st rfl 34 (.tmp 6) (.tmp 51) rfl N3 0 rfl (.agg (heC (tell1 l a.st hold A c))) (heC (tell1 l a.st hold A c)) rfl rfl info_heP (heC_one _) K3.out (Nat.le_of_ble_eq_true rfl) (C' := heC (tell1 l a.st hold A c)) (by kernel_rfl) ?_; intro w5 q1; refine Hid.out ?_)
    refine Lib.hid ?_
    have HXLn := Lib.hid (HXL.out.farT K3.out neL1 neL2 q1)
    clear HXL
    have HXL := HXLn
    clear HXLn
    have K1n := Lib.hid (K1.out.far q1 (by omega))
    clear K1
    have K1 := K1n
    clear K1n
    have K2n := Lib.hid (K2.out.far q1 (by omega))
    clear K2
    have K2 := K2n
    clear K2n
    have K8n := Lib.hid (K8.out.far q1 (by omega))
    clear K8
    have K8 := K8n
    clear K8n
    have HBn := Lib.hid (HB.out.trans (q1.2.1 _ (by omega)))
    clear HB
    have HB := HBn
    clear HBn
    have K3n : Hid (Blk 34 w5 N3 (heC (tell1 l a.st hold A c))) := Lib.hid q1.1
    clear K3
    have K3 := K3n
    clear K3n q1
    go_wp2_with fail
    exact bodyPost_ret (results_2 rfl _ w5 N3 (heC (tell1 l a.st hold A c)) (.int .i64 0) Try.underlying34 rfl info_heP rfl rfl K3.out) rfl (.inr ⟨HX.out, A, c, L1, by rw [show tellH l a hold A c = _ from HTH.out], HXL.out, HSL.out, HB.out⟩)
  · skip
    have HTH : Hid (tellH l a hold A c = ⟨l.s, l.nu, l.lv, hold, A, l.m, c, a.st, true, a.p, a.nu⟩) := Lib.hid (by unfold tellH; rw [HTB.out]; rfl)
    go_wp2_with fail
    have K8d : Hid (Blk 34 w4.drew P (heC (tell1 l a.st hold A c))) := Lib.hid K8.out
    clear K8
    have HXLd : Hid (OwnS w4.drew w.heap.size (.slice A l.m c) l.m L1) := Lib.hid HXL.out
    clear HXL
    refine wp_region_held_drew (S := fun w' => Blk 32 w' N1 (loC l) ∧ Blk 36 w' N2 (ajC a) ∧ Blk 34 w' N3 (heC he0) ∧ Below w.heap.size w w') (by kernel_rfl) ⟨K1.out, K2.out, K3.out, HB.out.drew⟩ (fun hS => ?_)
    generalize hW5 : w4.drew = W5 at hS K8d HXLd ⊢
    clear hW5
    clear K1
    clear K2
    clear K3
    clear HB
    have K8 := K8d
    clear K8d
    have HXL := HXLd
    clear HXLd
    have K1 := Lib.hid hS.1
    have K2 := Lib.hid hS.2.1
    have K3 := Lib.hid hS.2.2.1
    have HB := Lib.hid hS.2.2.2
    refine takeY (i := 0) (some 44) (v := .pointer (some ⟨N2, 1, none⟩)) rfl rfl (by kernel_rfl) (by kernel_rfl) (by kernel_rfl) (fun _ _ _ h => h) (by rfl) (fun w' hS => by go_simp) hS ?_
    simp only [Act.put, List.setIfInBounds_toArray, List.set_cons_zero, List.set_cons_succ]
    refine takeL (i := 1) (some 45) 23 (.tmp 44) N2 1 (syC a.p) _ rfl rfl (by kernel_rfl) (by kernel_rfl) (by kernel_rfl) (fun _ _ _ h => h) (by rfl) rfl rfl (fun w' hS => hS.2.1.ajp) Try.underlying23 rfl info_sys hS ?_
    simp only [Act.put, List.setIfInBounds_toArray, List.set_cons_zero, List.set_cons_succ]
    refine takeY (i := 2) (some 46) (v := .pointer (some ⟨N2, 7, none⟩)) rfl rfl (by kernel_rfl) (by kernel_rfl) (by kernel_rfl) (fun _ _ _ h => h) (by rfl) (fun w' hS => by go_simp) hS ?_
    simp only [Act.put, List.setIfInBounds_toArray, List.set_cons_zero, List.set_cons_succ]
    refine takeY (i := 3) (some 47) (v := .int .u8 a.nu) rfl rfl (by kernel_rfl) (by kernel_rfl) (by kernel_rfl) (fun _ _ _ h => h) (by rfl) (fun w' hS => by (have c9 : w'.cell? ⟨N2, 7, none⟩ = some (.int .u8 a.nu) := (hS.2.1.cell 7).trans rfl; clear hS; go_simp)) hS ?_
    simp only [Act.put, List.setIfInBounds_toArray, List.set_cons_zero, List.set_cons_succ]
    refine takeY (i := 4) (some 48) (v := .pointer (some ⟨P, 11, none⟩)) rfl rfl (by kernel_rfl) (by kernel_rfl) (by kernel_rfl) (fun _ _ _ h => h) (by rfl) (fun w' hS => by go_simp) hS ?_
    simp only [Act.put, List.setIfInBounds_toArray, List.set_cons_zero, List.set_cons_succ]
    refine takeSt (i := 5) 4 (.tmp 48) (.const (.bool true)) P 11 (.bool true) (#[.bool true]) (heC ⟨l.s, l.nu, l.lv, hold, A, l.m, c, a.st, true, z0, 0⟩) rfl rfl (by kernel_rfl) (by rfl) rfl rfl rfl rfl (by kernel_rfl) (by kernel_rfl) K8.out (Nat.le_of_ble_eq_true rfl) (by kernel_rfl) ?_
    intro W6 q1
    refine ⟨⟨K1.out.far q1 (by omega), K2.out.far q1 (by omega), K3.out.far q1 (by omega), HB.out.trans (q1.2.1 _ (by omega))⟩, ?_⟩
    simp only [Act.put, List.setIfInBounds_toArray, List.set_cons_zero, List.set_cons_succ]
    have HXLn := Lib.hid (HXL.out.farT K8.out neL1 neL2 q1)
    clear HXL
    have HXL := HXLn
    clear HXLn
    have K8n : Hid (Blk 34 W6 P (heC ⟨l.s, l.nu, l.lv, hold, A, l.m, c, a.st, true, z0, 0⟩)) := Lib.hid q1.1
    clear K8
    have K8 := K8n
    clear K8n
    have K1n := Lib.hid (K1.out.far q1 (by omega))
    clear K1
    have K1 := K1n
    clear K1n
    have K2n := Lib.hid (K2.out.far q1 (by omega))
    clear K2
    have K2 := K2n
    clear K2n
    have K3n := Lib.hid (K3.out.far q1 (by omega))
    clear K3
    have K3 := K3n
    clear K3n
    have HBn := Lib.hid (HB.out.trans (q1.2.1 _ (by omega)))
    clear HB
    have HB := HBn
    clear HBn
    clear q1 hS
    have hS := (And.intro K1.out (And.intro K2.out (And.intro K3.out HB.out)))
    refine takeY (i := 6) (some 49) (v := .pointer (some ⟨P, 12, none⟩)) rfl rfl (by kernel_rfl) (by kernel_rfl) (by kernel_rfl) (fun _ _ _ h => h) (by rfl) (fun w' hS => by go_simp) hS ?_
    simp only [Act.put, List.setIfInBounds_toArray, List.set_cons_zero, List.set_cons_succ]
    refine takeSt (i := 7) 23 (.tmp 49) (.tmp 45) P 12 (.agg (syC a.p)) (syC a.p) (heC ⟨l.s, l.nu, l.lv, hold, A, l.m, c, a.st, true, a.p, 0⟩) rfl rfl (by kernel_rfl) (by rfl) rfl rfl rfl rfl info_sys (syC_one _) K8.out (Nat.le_of_ble_eq_true rfl) (by kernel_rfl) ?_
    intro W7 q1
    refine ⟨⟨K1.out.far q1 (by omega), K2.out.far q1 (by omega), K3.out.far q1 (by omega), HB.out.trans (q1.2.1 _ (by omega))⟩, ?_⟩
    simp only [Act.put, List.setIfInBounds_toArray, List.set_cons_zero, List.set_cons_succ]
    have HXLn := Lib.hid (HXL.out.farT K8.out neL1 neL2 q1)
    clear HXL
    have HXL := HXLn
    clear HXLn
    have K8n : Hid (Blk 34 W7 P (heC ⟨l.s, l.nu, l.lv, hold, A, l.m, c, a.st, true, a.p, 0⟩)) := Lib.hid q1.1
    clear K8
    have K8 := K8n
    clear K8n
    have K1n := Lib.hid (K1.out.far q1 (by omega))
    clear K1
    have K1 := K1n
    clear K1n
    have K2n := Lib.hid (K2.out.far q1 (by omega))
    clear K2
    have K2 := K2n
    clear K2n
    have K3n := Lib.hid (K3.out.far q1 (by omega))
    clear K3
    have K3 := K3n
    clear K3n
    have HBn := Lib.hid (HB.out.trans (q1.2.1 _ (by omega)))
    clear HB
    have HB := HBn
    clear HBn
    clear q1 hS
    have hS := (And.intro K1.out (And.intro K2.out (And.intro K3.out HB.out)))
    refine takeY (i := 8) (some 50) (v := .pointer (some ⟨P, 18, none⟩)) rfl rfl (by kernel_rfl) (by kernel_rfl) (by kernel_rfl) (fun _ _ _ h => h) (by rfl) (fun w' hS => by go_simp) hS ?_
    simp only [Act.put, List.setIfInBounds_toArray, List.set_cons_zero, List.set_cons_succ]
    refine takeSt (i := 9) 5 (.tmp 50) (.tmp 47) P 18 (.int .u8 a.nu) (#[.int .u8 a.nu]) (heC ⟨l.s, l.nu, l.lv, hold, A, l.m, c, a.st, true, a.p, a.nu⟩) rfl rfl (by kernel_rfl) (by rfl) rfl rfl rfl rfl (by kernel_rfl) (by kernel_rfl) K8.out (Nat.le_of_ble_eq_true rfl) (by kernel_rfl) ?_
    intro W8 q1
    refine ⟨⟨K1.out.far q1 (by omega), K2.out.far q1 (by omega), K3.out.far q1 (by omega), HB.out.trans (q1.2.1 _ (by omega))⟩, ?_⟩
    simp only [Act.put, List.setIfInBounds_toArray, List.set_cons_zero, List.set_cons_succ]
    have HXLn := Lib.hid (HXL.out.farT K8.out neL1 neL2 q1)
    clear HXL
    have HXL := HXLn
    clear HXLn
    have K8n : Hid (Blk 34 W8 P (heC ⟨l.s, l.nu, l.lv, hold, A, l.m, c, a.st, true, a.p, a.nu⟩)) := Lib.hid q1.1
    clear K8
    have K8 := K8n
    clear K8n
    have K1n := Lib.hid (K1.out.far q1 (by omega))
    clear K1
    have K1 := K1n
    clear K1n
    have K2n := Lib.hid (K2.out.far q1 (by omega))
    clear K2
    have K2 := K2n
    clear K2n
    have K3n := Lib.hid (K3.out.far q1 (by omega))
    clear K3
    have K3 := K3n
    clear K3n
    have HBn := Lib.hid (HB.out.trans (q1.2.1 _ (by omega)))
    clear HB
    have HB := HBn
    clear HBn
    clear q1 hS
    have hS := (And.intro K1.out (And.intro K2.out (And.intro K3.out HB.out)))
    clear hS
    refine wpAnyH_done (by kernel_rfl) ?_ _
    go_wp2_with (refine wpList_ld (op := ⟨some 51, _, _, _, _, _⟩) (by rfl) 34 (.tmp 8) rfl P 0 rfl (heC ⟨l.s, l.nu, l.lv, hold, A, l.m, c, a.st, true, a.p, a.nu⟩) _ K8.out.all Try.underlying34 rfl info_heP ?_; refine Hid.out ?_)
    refine Lib.hid ?_
    go_wp2_with (refine wpList_st rfl 34 (.tmp 6) (.tmp 51) rfl N3 0 rfl (.agg (heC ⟨l.s, l.nu, l.lv, hold, A, l.m, c, a.st, true, a.p, a.nu⟩)) (heC ⟨l.s, l.nu, l.lv, hold, A, l.m, c, a.st, true, a.p, a.nu⟩) rfl rfl info_heP (heC_one _) K3.out (Nat.le_of_ble_eq_true rfl) (C' := heC ⟨l.s, l.nu, l.lv, hold, A, l.m, c, a.st, true, a.p, a.nu⟩) (by kernel_rfl) ?_; intro w9 q1; refine Hid.out ?_)
    refine Lib.hid ?_
    have HXLn := Lib.hid (HXL.out.farT K3.out neL1 neL2 q1)
    clear HXL
    have HXL := HXLn
    clear HXLn
    have K1n := Lib.hid (K1.out.far q1 (by omega))
    clear K1
    have K1 := K1n
    clear K1n
    have K2n := Lib.hid (K2.out.far q1 (by omega))
    clear K2
    have K2 := K2n
    clear K2n
    have K8n := Lib.hid (K8.out.far q1 (by omega))
    clear K8
    have K8 := K8n
    clear K8n
    have HBn := Lib.hid (HB.out.trans (q1.2.1 _ (by omega)))
    clear HB
    have HB := HBn
    clear HBn
    have K3n : Hid (Blk 34 w9 N3 (heC ⟨l.s, l.nu, l.lv, hold, A, l.m, c, a.st, true, a.p, a.nu⟩)) := Lib.hid q1.1
    clear K3
    have K3 := K3n
    clear K3n q1
    go_wp2_with fail
    exact bodyPost_ret (results_2 rfl _ w9 N3 (heC ⟨l.s, l.nu, l.lv, hold, A, l.m, c, a.st, true, a.p, a.nu⟩) (.int .i64 0) Try.underlying34 rfl info_heP rfl rfl K3.out) rfl (.inr ⟨HX.out, A, c, L1, by rw [show tellH l a hold A c = _ from HTH.out], HXL.out, HSL.out, HB.out⟩)
end Go.Proofs.Ythmnbhmficdifaa
