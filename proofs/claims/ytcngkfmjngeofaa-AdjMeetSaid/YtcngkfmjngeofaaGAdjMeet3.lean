/- Texts of this claim put together; each theorem states its conditions. -/
import Derived.Test.YtcngkfmjngeofaaGAdjMeet2
import Derived.Deep.DeepCutAuto
/- What a side tells, by the program and by the document. Each theorem states its conditions. -/
namespace Go.Proofs.Ytcngkfmjngeofaa
open Go.RowKit
set_option linter.unusedVariables false

theorem neL1 : (34 : TypeId) ≠ 49 := by decide
theorem neL2 : (34 : TypeId) ≠ 5 := by decide
/-- what a side tells -/
def tellH (l : Lo) (a : Aj) (hold : Int) (A : Option Addr) (c : Nat) : He := ⟨l.s, l.nu, l.lv, hold, A, l.m, c, a.st, thB a.st, if thB a.st then a.p else z0, if thB a.st then a.nu else 0⟩
def tellF (b1 b2 b3 b4 : Bool) : Int := if b1 || b2 || b3 then 1 else if b4 then 2 else 0
def tellE (l : Lo) (a : Aj) (hold : Int) : Int := tellF (lvBad l.lv) (stBad a.st) (hoBad hold) (decide (3 < l.m))
def TellP (w : World) (l : Lo) (a : Aj) (hold : Int) (L : Nat → Sl) (e : Ending) (w' : World) : Prop :=
  (tellE l a hold ≠ 0 ∧ e = .returned (.tuple #[.agg (heC he0), .int .i64 (tellE l a hold)]) ∧ Below w.heap.size w w') ∨
  (tellE l a hold = 0 ∧ ∃ A c L', e = .returned (.tuple #[.agg (heC (tellH l a hold A c)), .int .i64 0]) ∧ OwnS w' w.heap.size (.slice A l.m c) l.m L' ∧ (∀ j, j < l.m → sameS (L j) (L' j)) ∧ Below w.heap.size w w')
theorem build_he0 (o : Oper) (e : Operand → Value) (ho : o.op = .build 34 #[]) (W : World) : (execOp e o).run Try.prog W = .ok (.value (.agg (heC he0))) W := by
  unfold execOp
  simp only [ho]
  kernel_rfl
/-- the hello without the name of the other -/
def tell1 (l : Lo) (st hold : Int) (A : Option Addr) (c : Nat) : He := ⟨l.s, l.nu, l.lv, hold, A, l.m, c, st, false, z0, 0⟩
theorem build_tell (o : Oper) (e : Operand → Value) (x0 x1 x2 x3 x4 x5 : Operand) (ho : o.op = .build 34 #[(0, x0), (1, x1), (2, x2), (3, x3), (4, x4), (5, x5)]) (l : Lo) (st hold : Int) (A : Option Addr) (c : Nat)
    (h0 : e x0 = .agg (syC l.s)) (h1 : e x1 = .int .u8 l.nu) (h2 : e x2 = .int .i64 l.lv) (h3 : e x3 = .int .i64 hold) (h4 : e x4 = .slice A l.m c) (h5 : e x5 = .int .i64 st) (W : World) :
    (execOp e o).run Try.prog W = .ok (.value (.agg (heC (tell1 l st hold A c)))) W := by
  unfold execOp
  simp only [ho]
  simp only [List.map_toArray, List.map_cons, List.map_nil, h0, h1, h2, h3, h4, h5]
  kernel_rfl
set_option maxHeartbeats 20000000 in
set_option maxRecDepth 100000 in
theorem tell_any (l : Lo) (a : Aj) (hold : Int) (L : Nat → Sl) (w : World) (hL : RdS w l.A l.m L) (hm : l.m * 24 ≤ 140737488351232) :
    Calls Try.prog 16 #[.agg (loC l), .agg (ajC a), .int .i64 hold] w (TellP w l a hold L) := by
  have HE : Hid (tellE l a hold = tellF (lvBad l.lv) (stBad a.st) (hoBad hold) (decide (3 < l.m))) := Lib.hid rfl
  have HL := Lib.hid hL
  have HM := Lib.hid hm
  obtain ⟨b1, hb1⟩ : ∃ b, lvBad l.lv = b := ⟨_, rfl⟩
  have D1 := Lib.hid (fun w => isNoLevel_any _ _ hb1 w)
  rw [hb1] at HE
  clear hb1
  obtain ⟨b2, hb2⟩ : ∃ b, stBad a.st = b := ⟨_, rfl⟩
  have D2 := Lib.hid (fun w => isNoState_any _ _ hb2 w)
  rw [hb2] at HE
  clear hb2
  obtain ⟨b3, hb3⟩ : ∃ b, hoBad hold = b := ⟨_, rfl⟩
  have D3 := Lib.hid (fun w => isNoHold_any _ _ hb3 w)
  rw [hb3] at HE
  clear hb3
  obtain ⟨b, hb⟩ : ∃ b, thB a.st = b := ⟨_, rfl⟩
  have D4 := Lib.hid (fun w => isThere_any a _ hb w)
  have HTB := Lib.hid hb
  clear hb hL
  go_enter Try.func16, Try.ntmps16
  have HB := Lib.hid (Below.refl w.heap.size w)
  obtain ⟨N1, hN1⟩ : ∃ N, w.heap.size = N := ⟨_, rfl⟩
  have HN1 := Lib.hid hN1
  clear hN1
  go_wp2_with (refine wpList_box (op := ⟨some 3, _, _, _, _, _⟩) rfl 32 (.tmp 0) rfl (loC l) rfl N1 HN1.out ?_; intro w1 k1 b1 s1; refine Hid.out ?_)
  refine Lib.hid ?_
  have K1 := Lib.hid k1
  clear k1
  have le_HB_N1 : w.heap.size ≤ N1 := by rw [← HN1.out]; exact HB.out.size
  have HBn := Lib.hid (HB.out.trans (b1.mono HB.out.size))
  clear HB
  have HB := HBn
  clear HBn
  clear b1 HN1
  obtain ⟨N2, hN2⟩ : ∃ N, w1.heap.size = N := ⟨_, rfl⟩
  have HN2 := Lib.hid hN2
  clear hN2
  go_wp2_with (refine wpList_box (op := ⟨some 4, _, _, _, _, _⟩) rfl 36 (.tmp 1) rfl (ajC a) rfl N2 HN2.out ?_; intro w2 k1 b1 s1; refine Hid.out ?_)
  refine Lib.hid ?_
  have K2 := Lib.hid k1
  clear k1
  have lt_N1_N2 : N1 < N2 := by rw [← HN2.out]; exact K1.out.lt
  have le_HB_N2 : w.heap.size ≤ N2 := by rw [← HN2.out]; exact HB.out.size
  have K1n := Lib.hid (K1.out.below b1 K1.out.lt)
  clear K1
  have K1 := K1n
  clear K1n
  have HBn := Lib.hid (HB.out.trans (b1.mono HB.out.size))
  clear HB
  have HB := HBn
  clear HBn
  clear b1 HN2
  obtain ⟨N3, hN3⟩ : ∃ N, w2.heap.size = N := ⟨_, rfl⟩
  have HN3 := Lib.hid hN3
  clear hN3
  go_wp2_with (refine wpList_new (op := ⟨some 6, _, _, _, _, _⟩) rfl 34 rfl (heC he0) zero_heP N3 HN3.out ?_; intro w3 k1 b1 s1; refine Hid.out ?_)
  refine Lib.hid ?_
  have K3 := Lib.hid k1
  clear k1
  have lt_N1_N3 : N1 < N3 := by rw [← HN3.out]; exact K1.out.lt
  have lt_N2_N3 : N2 < N3 := by rw [← HN3.out]; exact K2.out.lt
  have le_HB_N3 : w.heap.size ≤ N3 := by rw [← HN3.out]; exact HB.out.size
  have K1n := Lib.hid (K1.out.below b1 K1.out.lt)
  clear K1
  have K1 := K1n
  clear K1n
  have K2n := Lib.hid (K2.out.below b1 K2.out.lt)
  clear K2
  have K2 := K2n
  clear K2n
  have HBn := Lib.hid (HB.out.trans (b1.mono HB.out.size))
  clear HB
  have HB := HBn
  clear HBn
  clear b1 HN3
  have cK1_7 : w3.cell? ⟨N1, 7, none⟩ = some (.int .i64 l.lv) := (K1.out.cell 7).trans rfl
  have cK1_8 : w3.cell? ⟨N1, 8, none⟩ = some (.slice l.A l.m l.c) := (K1.out.cell 8).trans rfl
  have cK2_0 : w3.cell? ⟨N2, 0, none⟩ = some (.int .i64 a.st) := (K2.out.cell 0).trans rfl
  cases b1
  rotate_left
  · skip
    have HX : Hid (tellE l a hold = 1) := Lib.hid (by rw [HE.out]; first | rfl | simp [tellF] | (simp [tellF]; omega))
    clear HE
    go_wp2_with (first | ((with_reducible refine (D1.out _).mono ?_); (rintro e wx ⟨rfl, rfl⟩)) | ((with_reducible refine (D2.out _).mono ?_); (rintro e wx ⟨rfl, rfl⟩)) | ((with_reducible refine (D3.out _).mono ?_); (rintro e wx ⟨rfl, rfl⟩)) | (refine wpList_v (op := ⟨some 22, _, _, _, _, _⟩) rfl _ (build_he0 _ _ rfl _) ?_; refine Hid.out ?_))
    refine Lib.hid ?_
    go_wp2_with (refine wpList_st rfl 34 (.tmp 6) (.tmp 22) rfl N3 0 rfl (.agg (heC he0)) (heC he0) rfl rfl info_heP (heC_one _) K3.out (Nat.le_of_ble_eq_true rfl) (C' := heC he0) (by kernel_rfl) ?_; intro w4 q1; refine Hid.out ?_)
    refine Lib.hid ?_
    have K1n := Lib.hid (K1.out.far q1 (by omega))
    clear K1
    have K1 := K1n
    clear K1n
    have K2n := Lib.hid (K2.out.far q1 (by omega))
    clear K2
    have K2 := K2n
    clear K2n
    have HBn := Lib.hid (HB.out.trans (q1.2.1 _ (by omega)))
    clear HB
    have HB := HBn
    clear HBn
    have K3n : Hid (Blk 34 w4 N3 (heC he0)) := Lib.hid q1.1
    clear K3
    have K3 := K3n
    clear K3n q1
    go_wp2_with fail
    exact bodyPost_ret (results_2 rfl _ w4 N3 (heC he0) (.int .i64 1) Try.underlying34 rfl info_heP rfl rfl K3.out) rfl (.inl ⟨by rw [HX.out]; decide, by rw [HX.out], HB.out⟩)
  cases b2
  rotate_left
  · skip
    have HX : Hid (tellE l a hold = 1) := Lib.hid (by rw [HE.out]; first | rfl | simp [tellF] | (simp [tellF]; omega))
    clear HE
    go_wp2_with (first | ((with_reducible refine (D1.out _).mono ?_); (rintro e wx ⟨rfl, rfl⟩)) | ((with_reducible refine (D2.out _).mono ?_); (rintro e wx ⟨rfl, rfl⟩)) | ((with_reducible refine (D3.out _).mono ?_); (rintro e wx ⟨rfl, rfl⟩)) | (refine wpList_v (op := ⟨some 22, _, _, _, _, _⟩) rfl _ (build_he0 _ _ rfl _) ?_; refine Hid.out ?_))
    refine Lib.hid ?_
    go_wp2_with (refine wpList_st rfl 34 (.tmp 6) (.tmp 22) rfl N3 0 rfl (.agg (heC he0)) (heC he0) rfl rfl info_heP (heC_one _) K3.out (Nat.le_of_ble_eq_true rfl) (C' := heC he0) (by kernel_rfl) ?_; intro w4 q1; refine Hid.out ?_)
    refine Lib.hid ?_
    have K1n := Lib.hid (K1.out.far q1 (by omega))
    clear K1
    have K1 := K1n
    clear K1n
    have K2n := Lib.hid (K2.out.far q1 (by omega))
    clear K2
    have K2 := K2n
    clear K2n
    have HBn := Lib.hid (HB.out.trans (q1.2.1 _ (by omega)))
    clear HB
    have HB := HBn
    clear HBn
    have K3n : Hid (Blk 34 w4 N3 (heC he0)) := Lib.hid q1.1
    clear K3
    have K3 := K3n
    clear K3n q1
    go_wp2_with fail
    exact bodyPost_ret (results_2 rfl _ w4 N3 (heC he0) (.int .i64 1) Try.underlying34 rfl info_heP rfl rfl K3.out) rfl (.inl ⟨by rw [HX.out]; decide, by rw [HX.out], HB.out⟩)
  cases b3
  rotate_left
  · skip
    have HX : Hid (tellE l a hold = 1) := Lib.hid (by rw [HE.out]; first | rfl | simp [tellF] | (simp [tellF]; omega))
    clear HE
    go_wp2_with (first | ((with_reducible refine (D1.out _).mono ?_); (rintro e wx ⟨rfl, rfl⟩)) | ((with_reducible refine (D2.out _).mono ?_); (rintro e wx ⟨rfl, rfl⟩)) | ((with_reducible refine (D3.out _).mono ?_); (rintro e wx ⟨rfl, rfl⟩)) | (refine wpList_v (op := ⟨some 22, _, _, _, _, _⟩) rfl _ (build_he0 _ _ rfl _) ?_; refine Hid.out ?_))
    refine Lib.hid ?_
    go_wp2_with (refine wpList_st rfl 34 (.tmp 6) (.tmp 22) rfl N3 0 rfl (.agg (heC he0)) (heC he0) rfl rfl info_heP (heC_one _) K3.out (Nat.le_of_ble_eq_true rfl) (C' := heC he0) (by kernel_rfl) ?_; intro w4 q1; refine Hid.out ?_)
    refine Lib.hid ?_
    have K1n := Lib.hid (K1.out.far q1 (by omega))
    clear K1
    have K1 := K1n
    clear K1n
    have K2n := Lib.hid (K2.out.far q1 (by omega))
    clear K2
    have K2 := K2n
    clear K2n
    have HBn := Lib.hid (HB.out.trans (q1.2.1 _ (by omega)))
    clear HB
    have HB := HBn
    clear HBn
    have K3n : Hid (Blk 34 w4 N3 (heC he0)) := Lib.hid q1.1
    clear K3
    have K3 := K3n
    clear K3n q1
    go_wp2_with fail
    exact bodyPost_ret (results_2 rfl _ w4 N3 (heC he0) (.int .i64 1) Try.underlying34 rfl info_heP rfl rfl K3.out) rfl (.inl ⟨by rw [HX.out]; decide, by rw [HX.out], HB.out⟩)
  by_cases n3 : 3 < l.m
  · skip
    rw [decide_eq_true n3] at HE
    have n3i : (3 : Int) < ((l.m : Nat) : Int) := by omega
    have HX : Hid (tellE l a hold = 2) := Lib.hid (by rw [HE.out]; first | rfl | simp [tellF] | (simp [tellF]; omega))
    clear HE
    go_wp2_with (first | ((with_reducible refine (D1.out _).mono ?_); (rintro e wx ⟨rfl, rfl⟩)) | ((with_reducible refine (D2.out _).mono ?_); (rintro e wx ⟨rfl, rfl⟩)) | ((with_reducible refine (D3.out _).mono ?_); (rintro e wx ⟨rfl, rfl⟩)) | (refine wpList_v (op := ⟨some 28, _, _, _, _, _⟩) rfl _ (build_he0 _ _ rfl _) ?_; refine Hid.out ?_))
    refine Lib.hid ?_
    go_wp2_with (refine wpList_st rfl 34 (.tmp 6) (.tmp 28) rfl N3 0 rfl (.agg (heC he0)) (heC he0) rfl rfl info_heP (heC_one _) K3.out (Nat.le_of_ble_eq_true rfl) (C' := heC he0) (by kernel_rfl) ?_; intro w4 q1; refine Hid.out ?_)
    refine Lib.hid ?_
    have K1n := Lib.hid (K1.out.far q1 (by omega))
    clear K1
    have K1 := K1n
    clear K1n
    have K2n := Lib.hid (K2.out.far q1 (by omega))
    clear K2
    have K2 := K2n
    clear K2n
    have HBn := Lib.hid (HB.out.trans (q1.2.1 _ (by omega)))
    clear HB
    have HB := HBn
    clear HBn
    have K3n : Hid (Blk 34 w4 N3 (heC he0)) := Lib.hid q1.1
    clear K3
    have K3 := K3n
    clear K3n q1
    go_wp2_with fail
    exact bodyPost_ret (results_2 rfl _ w4 N3 (heC he0) (.int .i64 2) Try.underlying34 rfl info_heP rfl rfl K3.out) rfl (.inl ⟨by rw [HX.out]; decide, by rw [HX.out], HB.out⟩)
  rw [decide_eq_false n3] at HE
  have n3i : ¬ (3 : Int) < ((l.m : Nat) : Int) := by omega
  have HX : Hid (tellE l a hold = 0) := Lib.hid HE.out
  clear HE
  go_wp2_with (first | ((with_reducible refine (D1.out _).mono ?_); (rintro e wx ⟨rfl, rfl⟩)) | ((with_reducible refine (D2.out _).mono ?_); (rintro e wx ⟨rfl, rfl⟩)) | ((with_reducible refine (D3.out _).mono ?_); (rintro e wx ⟨rfl, rfl⟩)))
  clear cK1_7 cK1_8 cK2_0 D1 D2 D3 n3 n3i
  go_cut [8] (fun s8 wc => ∃ P A c L1, s8 = .pointer (some ⟨P, 0, none⟩) ∧ Hid (Blk 34 wc P (heC (tell1 l a.st hold A c))) ∧ Hid (OwnS wc w.heap.size (.slice A l.m c) l.m L1) ∧ Hid (∀ j, j < l.m → sameS (L j) (L1 j)) ∧ N1 < P ∧ Hid (Blk 32 wc N1 (loC l)) ∧ N2 < P ∧ Hid (Blk 36 wc N2 (ajC a)) ∧ N3 < P ∧ Hid (Blk 34 wc N3 (heC he0)) ∧ w.heap.size ≤ P ∧ Hid (Below w.heap.size w wc))
  case first =>
    refine wp_region_held_drew (S := fun w' => Blk 32 w' N1 (loC l) ∧ Blk 36 w' N2 (ajC a) ∧ Blk 34 w' N3 (heC he0) ∧ Below w.heap.size w w') (by kernel_rfl) ⟨K1.out, K2.out, K3.out, HB.out.drew⟩ (fun hS => ?_)
    generalize hW4 : w3.drew = W4 at hS ⊢
    clear hW4
    clear K1
    clear K2
    clear K3
    clear HB
    have K1 := Lib.hid hS.1
    have K2 := Lib.hid hS.2.1
    have K3 := Lib.hid hS.2.2.1
    have HB := Lib.hid hS.2.2.2
    refine takeY (i := 0) (some 29) (v := .pointer (some ⟨N1, 0, none⟩)) rfl rfl (by kernel_rfl) (by kernel_rfl) (by kernel_rfl) (fun _ _ _ h => h) (by rfl) (fun w' hS => by go_simp) hS ?_
    simp only [Act.put, List.setIfInBounds_toArray, List.set_cons_zero, List.set_cons_succ]
    refine takeL (i := 1) (some 30) 23 (.tmp 29) N1 0 (syC l.s) _ rfl rfl (by kernel_rfl) (by kernel_rfl) (by kernel_rfl) (fun _ _ _ h => h) (by rfl) rfl rfl (fun w' hS => hS.1.los) Try.underlying23 rfl info_sys hS ?_
    simp only [Act.put, List.setIfInBounds_toArray, List.set_cons_zero, List.set_cons_succ]
    refine takeY (i := 2) (some 31) (v := .pointer (some ⟨N1, 6, none⟩)) rfl rfl (by kernel_rfl) (by kernel_rfl) (by kernel_rfl) (fun _ _ _ h => h) (by rfl) (fun w' hS => by go_simp) hS ?_
    simp only [Act.put, List.setIfInBounds_toArray, List.set_cons_zero, List.set_cons_succ]
    refine takeY (i := 3) (some 32) (v := .int .u8 l.nu) rfl rfl (by kernel_rfl) (by kernel_rfl) (by kernel_rfl) (fun _ _ _ h => h) (by rfl) (fun w' hS => by (have c9 : w'.cell? ⟨N1, 6, none⟩ = some (.int .u8 l.nu) := (hS.1.cell 6).trans rfl; clear hS; go_simp)) hS ?_
    simp only [Act.put, List.setIfInBounds_toArray, List.set_cons_zero, List.set_cons_succ]
    refine takeY (i := 4) (some 33) (v := .pointer (some ⟨N1, 7, none⟩)) rfl rfl (by kernel_rfl) (by kernel_rfl) (by kernel_rfl) (fun _ _ _ h => h) (by rfl) (fun w' hS => by go_simp) hS ?_
    simp only [Act.put, List.setIfInBounds_toArray, List.set_cons_zero, List.set_cons_succ]
    refine takeY (i := 5) (some 34) (v := .int .i64 l.lv) rfl rfl (by kernel_rfl) (by kernel_rfl) (by kernel_rfl) (fun _ _ _ h => h) (by rfl) (fun w' hS => by (have c9 : w'.cell? ⟨N1, 7, none⟩ = some (.int .i64 l.lv) := (hS.1.cell 7).trans rfl; clear hS; go_simp)) hS ?_
    simp only [Act.put, List.setIfInBounds_toArray, List.set_cons_zero, List.set_cons_succ]
    refine takeY (i := 6) (some 35) (v := .int .i64 hold) rfl rfl (by kernel_rfl) (by kernel_rfl) (by kernel_rfl) (fun _ _ _ h => h) (by rfl) (fun w' hS => by go_simp) hS ?_
    simp only [Act.put, List.setIfInBounds_toArray, List.set_cons_zero, List.set_cons_succ]
    refine takeY (i := 7) (some 36) (v := .pointer (some ⟨N1, 8, none⟩)) rfl rfl (by kernel_rfl) (by kernel_rfl) (by kernel_rfl) (fun _ _ _ h => h) (by rfl) (fun w' hS => by go_simp) hS ?_
    simp only [Act.put, List.setIfInBounds_toArray, List.set_cons_zero, List.set_cons_succ]
    refine takeY (i := 8) (some 37) (v := .slice l.A l.m l.c) rfl rfl (by kernel_rfl) (by kernel_rfl) (by kernel_rfl) (fun _ _ _ h => h) (by rfl) (fun w' hS => by (have c9 : w'.cell? ⟨N1, 8, none⟩ = some (.slice l.A l.m l.c) := (hS.1.cell 8).trans rfl; clear hS; go_simp)) hS ?_
    simp only [Act.put, List.setIfInBounds_toArray, List.set_cons_zero, List.set_cons_succ]
    refine takeY (i := 10) (some 39) (v := .pointer (some ⟨N2, 0, none⟩)) rfl rfl (by kernel_rfl) (by kernel_rfl) (by kernel_rfl) (fun _ _ _ h => h) (by rfl) (fun w' hS => by go_simp) hS ?_
    simp only [Act.put, List.setIfInBounds_toArray, List.set_cons_zero, List.set_cons_succ]
    refine takeY (i := 11) (some 40) (v := .int .i64 a.st) rfl rfl (by kernel_rfl) (by kernel_rfl) (by kernel_rfl) (fun _ _ _ h => h) (by rfl) (fun w' hS => by (have c9 : w'.cell? ⟨N2, 0, none⟩ = some (.int .i64 a.st) := (hS.2.1.cell 0).trans rfl; clear hS; go_simp)) hS ?_
    simp only [Act.put, List.setIfInBounds_toArray, List.set_cons_zero, List.set_cons_succ]
    obtain ⟨M0, hM0⟩ : ∃ N, W4.heap.size = N := ⟨_, rfl⟩
    have HM0 := Lib.hid hM0
    clear hM0
    have HBS : Hid (w.heap.size ≤ W4.heap.size) := Lib.hid HB.out.size
    refine wpAnyH_ready (show Region.ready _ _ _ = [9, 13] from by kernel_rfl) (by simp) (consCE (i := 9) (some 38) 36 #[.slice l.A l.m l.c] (R := fun v w' => ∃ A c L', v = .slice A l.m c ∧ OwnS w' W4.heap.size v l.m L' ∧ (∀ j, j < l.m → sameS (L j) (L' j)) ∧ Below W4.heap.size W4 w') rfl rfl (by rfl) (by go_simp) ((copyAreas_any l.A l.m l.c L W4 (HL.out.below HB.out) HM.out).mono (fun e w' ⟨v, L', h1, h2, h3, h4⟩ => by obtain ⟨A, c, h5, _⟩ := h2.shape; exact ⟨v, h1, A, c, L', h5, h2, h3, h4⟩)) (fun v w' h => by obtain ⟨A, c, L1, rfl, ho1, hs1, hb1⟩ := h; exact ⟨hS.1.below hb1 hS.1.lt, hS.2.1.below hb1 hS.2.1.lt, hS.2.2.1.below hb1 hS.2.2.1.lt, hS.2.2.2.trans (hb1.mono hS.2.2.2.size)⟩) ?_ (consMk (i := 13) (some 8) 34 (heC he0) rfl rfl (by rfl) rfl zero_heP M0 HM0.out ?_ AllReadyH.nil))
    · skip
      clear HM0
      intro v W5 h hS2
      obtain ⟨A, c, L1, rfl, ho1, hs1, hb1⟩ := h
      simp only [Act.put, List.setIfInBounds_toArray, List.set_cons_zero, List.set_cons_succ]
      clear K1
      clear K2
      clear K3
      clear HB
      clear hS
      have hS := hS2
      clear hS2
      have K1 := Lib.hid hS.1
      have K2 := Lib.hid hS.2.1
      have K3 := Lib.hid hS.2.2.1
      have HB := Lib.hid hS.2.2.2
      have HXL := Lib.hid (ho1.base HBS.out)
      have HSL := Lib.hid hs1
      clear ho1 hs1 hb1
      refine takeY (i := 12) (some 41) (v := .agg (heC (tell1 l a.st hold A c))) rfl rfl (by kernel_rfl) (by kernel_rfl) (by kernel_rfl) (fun _ _ _ h => h) (by rfl) (fun w' hS => build_tell _ _ _ _ _ _ _ _ rfl l a.st hold A c rfl rfl rfl rfl rfl rfl w') hS ?_
      simp only [Act.put, List.setIfInBounds_toArray, List.set_cons_zero, List.set_cons_succ]
      obtain ⟨M1, hM1⟩ : ∃ N, W5.heap.size = N := ⟨_, rfl⟩
      have HM1 := Lib.hid hM1
      clear hM1
      refine takeMk (i := 13) (some 8) 34 (heC he0) rfl rfl (by kernel_rfl) (by rfl) rfl zero_heP M1 HM1.out ?_
      · skip
        intro W6 k1 b1 s1
        refine ⟨⟨hS.1.below b1 hS.1.lt, hS.2.1.below b1 hS.2.1.lt, hS.2.2.1.below b1 hS.2.2.1.lt, hS.2.2.2.trans (b1.mono hS.2.2.2.size)⟩, ?_⟩
        simp only [Act.put, List.setIfInBounds_toArray, List.set_cons_zero, List.set_cons_succ]
        have K8 := Lib.hid k1
        clear k1
        have lt_N1_M1 : N1 < M1 := by rw [← HM1.out]; exact K1.out.lt
        have lt_N2_M1 : N2 < M1 := by rw [← HM1.out]; exact K2.out.lt
        have lt_N3_M1 : N3 < M1 := by rw [← HM1.out]; exact K3.out.lt
        have le_HB_M1 : w.heap.size ≤ M1 := by rw [← HM1.out]; exact HB.out.size
        have HXLn := Lib.hid (HXL.out.below b1)
        clear HXL
        have HXL := HXLn
        clear HXLn
        have K1n := Lib.hid (K1.out.below b1 K1.out.lt)
        clear K1
        have K1 := K1n
        clear K1n
        have K2n := Lib.hid (K2.out.below b1 K2.out.lt)
        clear K2
        have K2 := K2n
        clear K2n
        have K3n := Lib.hid (K3.out.below b1 K3.out.lt)
        clear K3
        have K3 := K3n
        clear K3n
        have HBn := Lib.hid (HB.out.trans (b1.mono HB.out.size))
        clear HB
        have HB := HBn
        clear HBn
        clear b1 HM1 hS
        have hS := (And.intro K1.out (And.intro K2.out (And.intro K3.out HB.out)))
        refine takeSt (i := 14) 34 (.tmp 8) (.tmp 41) M1 0 (.agg (heC (tell1 l a.st hold A c))) (heC (tell1 l a.st hold A c)) (heC (tell1 l a.st hold A c)) rfl rfl (by kernel_rfl) (by rfl) rfl rfl rfl rfl info_heP (heC_one _) K8.out (Nat.le_of_ble_eq_true rfl) (by kernel_rfl) ?_
        intro W7 q1
        refine ⟨⟨K1.out.far q1 (by omega), K2.out.far q1 (by omega), K3.out.far q1 (by omega), HB.out.trans (q1.2.1 _ (by omega))⟩, ?_⟩
        simp only [Act.put, List.setIfInBounds_toArray, List.set_cons_zero, List.set_cons_succ]
        have HXLn := Lib.hid (HXL.out.farT K8.out neL1 neL2 q1)
        clear HXL
        have HXL := HXLn
        clear HXLn
        have K8n : Hid (Blk 34 W7 M1 (heC (tell1 l a.st hold A c))) := Lib.hid q1.1
        clear K8
        have K8 := K8n
        clear K8n
        have K1n := Lib.hid (K1.out.far q1 (by omega))
        clear K1
        have K1 := K1n
        clear K1n
        have K2n := Lib.hid (K2.out.far q1 (by omega))
        clear K2
        have K2 := K2n
        clear K2n
        have K3n := Lib.hid (K3.out.far q1 (by omega))
        clear K3
        have K3 := K3n
        clear K3n
        have HBn := Lib.hid (HB.out.trans (q1.2.1 _ (by omega)))
        clear HB
        have HB := HBn
        clear HBn
        clear q1 hS
        have hS := (And.intro K1.out (And.intro K2.out (And.intro K3.out HB.out)))
        clear hS
        refine wpAnyH_done (by kernel_rfl) ?_ _
        go_wp2_with fail
        go_meet
        case rel => exact ⟨M1, A, c, L1, rfl, K8, HXL, HSL, lt_N1_M1, K1, lt_N2_M1, K2, lt_N3_M1, K3, le_HB_M1, HB⟩
    · skip
      intro W5 k1 b1 s1
      refine ⟨⟨hS.1.below b1 hS.1.lt, hS.2.1.below b1 hS.2.1.lt, hS.2.2.1.below b1 hS.2.2.1.lt, hS.2.2.2.trans (b1.mono hS.2.2.2.size)⟩, ?_⟩
      simp only [Act.put, List.setIfInBounds_toArray, List.set_cons_zero, List.set_cons_succ]
      have K8 := Lib.hid k1
      clear k1
      have lt_N1_M0 : N1 < M0 := by rw [← HM0.out]; exact K1.out.lt
      have lt_N2_M0 : N2 < M0 := by rw [← HM0.out]; exact K2.out.lt
      have lt_N3_M0 : N3 < M0 := by rw [← HM0.out]; exact K3.out.lt
      have le_HB_M0 : w.heap.size ≤ M0 := by rw [← HM0.out]; exact HB.out.size
      have K1n := Lib.hid (K1.out.below b1 K1.out.lt)
      clear K1
      have K1 := K1n
      clear K1n
      have K2n := Lib.hid (K2.out.below b1 K2.out.lt)
      clear K2
      have K2 := K2n
      clear K2n
      have K3n := Lib.hid (K3.out.below b1 K3.out.lt)
      clear K3
      have K3 := K3n
      clear K3n
      have HBn := Lib.hid (HB.out.trans (b1.mono HB.out.size))
      clear HB
      have HB := HBn
      clear HBn
      clear b1 HM0 hS
      have hS := (And.intro K1.out (And.intro K2.out (And.intro K3.out HB.out)))
      have HBS : Hid (w.heap.size ≤ W5.heap.size) := Lib.hid HB.out.size
      refine takeCE (i := 9) (some 38) 36 #[.slice l.A l.m l.c] (R := fun v w' => ∃ A c L', v = .slice A l.m c ∧ OwnS w' W5.heap.size v l.m L' ∧ (∀ j, j < l.m → sameS (L j) (L' j)) ∧ Below W5.heap.size W5 w') rfl rfl (by kernel_rfl) (by rfl) (by go_simp) ((copyAreas_any l.A l.m l.c L W5 (HL.out.below HB.out) HM.out).mono (fun e w' ⟨v, L', h1, h2, h3, h4⟩ => by obtain ⟨A, c, h5, _⟩ := h2.shape; exact ⟨v, h1, A, c, L', h5, h2, h3, h4⟩)) (fun v w' h => by obtain ⟨A, c, L1, rfl, ho1, hs1, hb1⟩ := h; exact ⟨hS.1.below hb1 hS.1.lt, hS.2.1.below hb1 hS.2.1.lt, hS.2.2.1.below hb1 hS.2.2.1.lt, hS.2.2.2.trans (hb1.mono hS.2.2.2.size)⟩) ?_
      · skip
        intro v W6 h hS2
        obtain ⟨A, c, L1, rfl, ho1, hs1, hb1⟩ := h
        simp only [Act.put, List.setIfInBounds_toArray, List.set_cons_zero, List.set_cons_succ]
        have K8n := Lib.hid (K8.out.below hb1 K8.out.lt)
        clear K8
        have K8 := K8n
        clear K8n
        clear K1
        clear K2
        clear K3
        clear HB
        clear hS
        have hS := hS2
        clear hS2
        have K1 := Lib.hid hS.1
        have K2 := Lib.hid hS.2.1
        have K3 := Lib.hid hS.2.2.1
        have HB := Lib.hid hS.2.2.2
        have HXL := Lib.hid (ho1.base HBS.out)
        have HSL := Lib.hid hs1
        clear ho1 hs1 hb1
        refine takeY (i := 12) (some 41) (v := .agg (heC (tell1 l a.st hold A c))) rfl rfl (by kernel_rfl) (by kernel_rfl) (by kernel_rfl) (fun _ _ _ h => h) (by rfl) (fun w' hS => build_tell _ _ _ _ _ _ _ _ rfl l a.st hold A c rfl rfl rfl rfl rfl rfl w') hS ?_
        simp only [Act.put, List.setIfInBounds_toArray, List.set_cons_zero, List.set_cons_succ]
        refine takeSt (i := 14) 34 (.tmp 8) (.tmp 41) M0 0 (.agg (heC (tell1 l a.st hold A c))) (heC (tell1 l a.st hold A c)) (heC (tell1 l a.st hold A c)) rfl rfl (by kernel_rfl) (by rfl) rfl rfl rfl rfl info_heP (heC_one _) K8.out (Nat.le_of_ble_eq_true rfl) (by kernel_rfl) ?_
        intro W7 q1
        refine ⟨⟨K1.out.far q1 (by omega), K2.out.far q1 (by omega), K3.out.far q1 (by omega), HB.out.trans (q1.2.1 _ (by omega))⟩, ?_⟩
        simp only [Act.put, List.setIfInBounds_toArray, List.set_cons_zero, List.set_cons_succ]
        have HXLn := Lib.hid (HXL.out.farT K8.out neL1 neL2 q1)
        clear HXL
        have HXL := HXLn
        clear HXLn
        have K8n : Hid (Blk 34 W7 M0 (heC (tell1 l a.st hold A c))) := Lib.hid q1.1
        clear K8
        have K8 := K8n
        clear K8n
        have K1n := Lib.hid (K1.out.far q1 (by omega))
        clear K1
        have K1 := K1n
        clear K1n
        have K2n := Lib.hid (K2.out.far q1 (by omega))
        clear K2
        have K2 := K2n
        clear K2n
        have K3n := Lib.hid (K3.out.far q1 (by omega))
        clear K3
        have K3 := K3n
        clear K3n
        have HBn := Lib.hid (HB.out.trans (q1.2.1 _ (by omega)))
        clear HB
        have HB := HBn
        clear HBn
        clear q1 hS
        have hS := (And.intro K1.out (And.intro K2.out (And.intro K3.out HB.out)))
        clear hS
        refine wpAnyH_done (by kernel_rfl) ?_ _
        go_wp2_with fail
        go_meet
        case rel => exact ⟨M0, A, c, L1, rfl, K8, HXL, HSL, lt_N1_M0, K1, lt_N2_M0, K2, lt_N3_M0, K3, le_HB_M0, HB⟩
  case rest =>
  clear K1
  clear K2
  clear K3
  clear HB
  obtain ⟨P, A, c, L1, rfl, K8, HXL, HSL, lt_N1_P, K1, lt_N2_P, K2, lt_N3_P, K3, le_HB_P, HB⟩ := hcut
  obtain ⟨wd, rfl⟩ : ∃ wd, wd = wc := ⟨_, rfl⟩
  go_wp2_with (refine wpList_ld (op := ⟨some 42, _, _, _, _, _⟩) (by rfl) 36 (.tmp 4) rfl N2 0 rfl (ajC a) _ K2.out.all Try.underlying36 rfl info_ajP ?_; refine Hid.out ?_)
  refine Lib.hid ?_
  go_wp2_with fail
  refine (D4.out _).mono ?_
  rintro e w4 ⟨rfl, b1⟩
  have K1n := Lib.hid (K1.out.below b1 K1.out.lt)
  clear K1
  have K1 := K1n
  clear K1n
  have K2n := Lib.hid (K2.out.below b1 K2.out.lt)
  clear K2
  have K2 := K2n
  clear K2n
  have K3n := Lib.hid (K3.out.below b1 K3.out.lt)
  clear K3
  have K3 := K3n
  clear K3n
  have K8n := Lib.hid (K8.out.below b1 K8.out.lt)
  clear K8
  have K8 := K8n
  clear K8n
  have HXLn := Lib.hid (HXL.out.below b1)
  clear HXL
  have HXL := HXLn
  clear HXLn
  have HBn := Lib.hid (HB.out.trans (b1.mono HB.out.size))
  clear HB
  have HB := HBn
  clear HBn
  clear b1 D4
  cases b
  · skip
    have HTH : Hid (tellH l a hold A c = tell1 l a.st hold A c) := Lib.hid (by unfold tellH tell1; rw [HTB.out]; rfl)
    go_wp2_with (refine wpList_ld (op := ⟨some 51, _, _, _, _, _⟩) (by rfl) 34 (.tmp 8) rfl P 0 rfl (heC (tell1 l a.st hold A c)) _ K8.out.all Try.underlying34 rfl info_heP ?_; refine Hid.out ?_)
    refine Lib.hid ?_
    go_wp2_with (refine wpList_st rfl 34 (.tmp 6) (.tmp 51) rfl N3 0 rfl (.agg (heC (tell1 l a.st hold A c))) (heC (tell1 l a.st hold A c)) rfl rfl info_heP (heC_one _) K3.out (Nat.le_of_ble_eq_true rfl) (C' := heC (tell1 l a.st hold A c)) (by kernel_rfl) ?_; intro w5 q1; refine Hid.out ?_)
    refine Lib.hid ?_
    have HXLn := Lib.hid (HXL.out.farT K3.out neL1 neL2 q1)
    clear HXL
    have HXL := HXLn
    clear HXLn
    have K1n := Lib.hid (K1.out.far q1 (by omega))
    clear K1
    have K1 := K1n
    clear K1n
    have K2n := Lib.hid (K2.out.far q1 (by omega))
    clear K2
    have K2 := K2n
    clear K2n
    have K8n := Lib.hid (K8.out.far q1 (by omega))
    clear K8
    have K8 := K8n
    clear K8n
    have HBn := Lib.hid (HB.out.trans (q1.2.1 _ (by omega)))
    clear HB
    have HB := HBn
    clear HBn
    have K3n : Hid (Blk 34 w5 N3 (heC (tell1 l a.st hold A c))) := Lib.hid q1.1
    clear K3
    have K3 := K3n
    clear K3n q1
    go_wp2_with fail
    exact bodyPost_ret (results_2 rfl _ w5 N3 (heC (tell1 l a.st hold A c)) (.int .i64 0) Try.underlying34 rfl info_heP rfl rfl K3.out) rfl (.inr ⟨HX.out, A, c, L1, by rw [show tellH l a hold A c = _ from HTH.out], HXL.out, HSL.out, HB.out⟩)
  · skip
    have HTH : Hid (tellH l a hold A c = ⟨l.s, l.nu, l.lv, hold, A, l.m, c, a.st, true, a.p, a.nu⟩) := Lib.hid (by unfold tellH; rw [HTB.out]; rfl)
    go_wp2_with fail
    have K8d : Hid (Blk 34 w4.drew P (heC (tell1 l a.st hold A c))) := Lib.hid K8.out
    clear K8
    have HXLd : Hid (OwnS w4.drew w.heap.size (.slice A l.m c) l.m L1) := Lib.hid HXL.out
    clear HXL
    refine wp_region_held_drew (S := fun w' => Blk 32 w' N1 (loC l) ∧ Blk 36 w' N2 (ajC a) ∧ Blk 34 w' N3 (heC he0) ∧ Below w.heap.size w w') (by kernel_rfl) ⟨K1.out, K2.out, K3.out, HB.out.drew⟩ (fun hS => ?_)
    generalize hW5 : w4.drew = W5 at hS K8d HXLd ⊢
    clear hW5
    clear K1
    clear K2
    clear K3
    clear HB
    have K8 := K8d
    clear K8d
    have HXL := HXLd
    clear HXLd
    have K1 := Lib.hid hS.1
    have K2 := Lib.hid hS.2.1
    have K3 := Lib.hid hS.2.2.1
    have HB := Lib.hid hS.2.2.2
    refine takeY (i := 0) (some 44) (v := .pointer (some ⟨N2, 1, none⟩)) rfl rfl (by kernel_rfl) (by kernel_rfl) (by kernel_rfl) (fun _ _ _ h => h) (by rfl) (fun w' hS => by go_simp) hS ?_
    simp only [Act.put, List.setIfInBounds_toArray, List.set_cons_zero, List.set_cons_succ]
    refine takeL (i := 1) (some 45) 23 (.tmp 44) N2 1 (syC a.p) _ rfl rfl (by kernel_rfl) (by kernel_rfl) (by kernel_rfl) (fun _ _ _ h => h) (by rfl) rfl rfl (fun w' hS => hS.2.1.ajp) Try.underlying23 rfl info_sys hS ?_
    simp only [Act.put, List.setIfInBounds_toArray, List.set_cons_zero, List.set_cons_succ]
    refine takeY (i := 2) (some 46) (v := .pointer (some ⟨N2, 7, none⟩)) rfl rfl (by kernel_rfl) (by kernel_rfl) (by kernel_rfl) (fun _ _ _ h => h) (by rfl) (fun w' hS => by go_simp) hS ?_
    simp only [Act.put, List.setIfInBounds_toArray, List.set_cons_zero, List.set_cons_succ]
    refine takeY (i := 3) (some 47) (v := .int .u8 a.nu) rfl rfl (by kernel_rfl) (by kernel_rfl) (by kernel_rfl) (fun _ _ _ h => h) (by rfl) (fun w' hS => by (have c9 : w'.cell? ⟨N2, 7, none⟩ = some (.int .u8 a.nu) := (hS.2.1.cell 7).trans rfl; clear hS; go_simp)) hS ?_
    simp only [Act.put, List.setIfInBounds_toArray, List.set_cons_zero, List.set_cons_succ]
    refine takeY (i := 4) (some 48) (v := .pointer (some ⟨P, 11, none⟩)) rfl rfl (by kernel_rfl) (by kernel_rfl) (by kernel_rfl) (fun _ _ _ h => h) (by rfl) (fun w' hS => by go_simp) hS ?_
    simp only [Act.put, List.setIfInBounds_toArray, List.set_cons_zero, List.set_cons_succ]
    refine takeSt (i := 5) 4 (.tmp 48) (.const (.bool true)) P 11 (.bool true) (#[.bool true]) (heC ⟨l.s, l.nu, l.lv, hold, A, l.m, c, a.st, true, z0, 0⟩) rfl rfl (by kernel_rfl) (by rfl) rfl rfl rfl rfl (by kernel_rfl) (by kernel_rfl) K8.out (Nat.le_of_ble_eq_true rfl) (by kernel_rfl) ?_
    intro W6 q1
    refine ⟨⟨K1.out.far q1 (by omega), K2.out.far q1 (by omega), K3.out.far q1 (by omega), HB.out.trans (q1.2.1 _ (by omega))⟩, ?_⟩
    simp only [Act.put, List.setIfInBounds_toArray, List.set_cons_zero, List.set_cons_succ]
    have HXLn := Lib.hid (HXL.out.farT K8.out neL1 neL2 q1)
    clear HXL
    have HXL := HXLn
    clear HXLn
    have K8n : Hid (Blk 34 W6 P (heC ⟨l.s, l.nu, l.lv, hold, A, l.m, c, a.st, true, z0, 0⟩)) := Lib.hid q1.1
    clear K8
    have K8 := K8n
    clear K8n
    have K1n := Lib.hid (K1.out.far q1 (by omega))
    clear K1
    have K1 := K1n
    clear K1n
    have K2n := Lib.hid (K2.out.far q1 (by omega))
    clear K2
    have K2 := K2n
    clear K2n
    have K3n := Lib.hid (K3.out.far q1 (by omega))
    clear K3
    have K3 := K3n
    clear K3n
    have HBn := Lib.hid (HB.out.trans (q1.2.1 _ (by omega)))
    clear HB
    have HB := HBn
    clear HBn
    clear q1 hS
    have hS := (And.intro K1.out (And.intro K2.out (And.intro K3.out HB.out)))
    refine takeY (i := 6) (some 49) (v := .pointer (some ⟨P, 12, none⟩)) rfl rfl (by kernel_rfl) (by kernel_rfl) (by kernel_rfl) (fun _ _ _ h => h) (by rfl) (fun w' hS => by go_simp) hS ?_
    simp only [Act.put, List.setIfInBounds_toArray, List.set_cons_zero, List.set_cons_succ]
    refine takeSt (i := 7) 23 (.tmp 49) (.tmp 45) P 12 (.agg (syC a.p)) (syC a.p) (heC ⟨l.s, l.nu, l.lv, hold, A, l.m, c, a.st, true, a.p, 0⟩) rfl rfl (by kernel_rfl) (by rfl) rfl rfl rfl rfl info_sys (syC_one _) K8.out (Nat.le_of_ble_eq_true rfl) (by kernel_rfl) ?_
    intro W7 q1
    refine ⟨⟨K1.out.far q1 (by omega), K2.out.far q1 (by omega), K3.out.far q1 (by omega), HB.out.trans (q1.2.1 _ (by omega))⟩, ?_⟩
    simp only [Act.put, List.setIfInBounds_toArray, List.set_cons_zero, List.set_cons_succ]
    have HXLn := Lib.hid (HXL.out.farT K8.out neL1 neL2 q1)
    clear HXL
    have HXL := HXLn
    clear HXLn
    have K8n : Hid (Blk 34 W7 P (heC ⟨l.s, l.nu, l.lv, hold, A, l.m, c, a.st, true, a.p, 0⟩)) := Lib.hid q1.1
    clear K8
    have K8 := K8n
    clear K8n
    have K1n := Lib.hid (K1.out.far q1 (by omega))
    clear K1
    have K1 := K1n
    clear K1n
    have K2n := Lib.hid (K2.out.far q1 (by omega))
    clear K2
    have K2 := K2n
    clear K2n
    have K3n := Lib.hid (K3.out.far q1 (by omega))
    clear K3
    have K3 := K3n
    clear K3n
    have HBn := Lib.hid (HB.out.trans (q1.2.1 _ (by omega)))
    clear HB
    have HB := HBn
    clear HBn
    clear q1 hS
    have hS := (And.intro K1.out (And.intro K2.out (And.intro K3.out HB.out)))
    refine takeY (i := 8) (some 50) (v := .pointer (some ⟨P, 18, none⟩)) rfl rfl (by kernel_rfl) (by kernel_rfl) (by kernel_rfl) (fun _ _ _ h => h) (by rfl) (fun w' hS => by go_simp) hS ?_
    simp only [Act.put, List.setIfInBounds_toArray, List.set_cons_zero, List.set_cons_succ]
    refine takeSt (i := 9) 5 (.tmp 50) (.tmp 47) P 18 (.int .u8 a.nu) (#[.int .u8 a.nu]) (heC ⟨l.s, l.nu, l.lv, hold, A, l.m, c, a.st, true, a.p, a.nu⟩) rfl rfl (by kernel_rfl) (by rfl) rfl rfl rfl rfl (by kernel_rfl) (by kernel_rfl) K8.out (Nat.le_of_ble_eq_true rfl) (by kernel_rfl) ?_
    intro W8 q1
    refine ⟨⟨K1.out.far q1 (by omega), K2.out.far q1 (by omega), K3.out.far q1 (by omega), HB.out.trans (q1.2.1 _ (by omega))⟩, ?_⟩
    simp only [Act.put, List.setIfInBounds_toArray, List.set_cons_zero, List.set_cons_succ]
    have HXLn := Lib.hid (HXL.out.farT K8.out neL1 neL2 q1)
    clear HXL
    have HXL := HXLn
    clear HXLn
    have K8n : Hid (Blk 34 W8 P (heC ⟨l.s, l.nu, l.lv, hold, A, l.m, c, a.st, true, a.p, a.nu⟩)) := Lib.hid q1.1
    clear K8
    have K8 := K8n
    clear K8n
    have K1n := Lib.hid (K1.out.far q1 (by omega))
    clear K1
    have K1 := K1n
    clear K1n
    have K2n := Lib.hid (K2.out.far q1 (by omega))
    clear K2
    have K2 := K2n
    clear K2n
    have K3n := Lib.hid (K3.out.far q1 (by omega))
    clear K3
    have K3 := K3n
    clear K3n
    have HBn := Lib.hid (HB.out.trans (q1.2.1 _ (by omega)))
    clear HB
    have HB := HBn
    clear HBn
    clear q1 hS
    have hS := (And.intro K1.out (And.intro K2.out (And.intro K3.out HB.out)))
    clear hS
    refine wpAnyH_done (by kernel_rfl) ?_ _
    go_wp2_with (refine wpList_ld (op := ⟨some 51, _, _, _, _, _⟩) (by rfl) 34 (.tmp 8) rfl P 0 rfl (heC ⟨l.s, l.nu, l.lv, hold, A, l.m, c, a.st, true, a.p, a.nu⟩) _ K8.out.all Try.underlying34 rfl info_heP ?_; refine Hid.out ?_)
    refine Lib.hid ?_
    go_wp2_with (refine wpList_st rfl 34 (.tmp 6) (.tmp 51) rfl N3 0 rfl (.agg (heC ⟨l.s, l.nu, l.lv, hold, A, l.m, c, a.st, true, a.p, a.nu⟩)) (heC ⟨l.s, l.nu, l.lv, hold, A, l.m, c, a.st, true, a.p, a.nu⟩) rfl rfl info_heP (heC_one _) K3.out (Nat.le_of_ble_eq_true rfl) (C' := heC ⟨l.s, l.nu, l.lv, hold, A, l.m, c, a.st, true, a.p, a.nu⟩) (by kernel_rfl) ?_; intro w9 q1; refine Hid.out ?_)
    refine Lib.hid ?_
    have HXLn := Lib.hid (HXL.out.farT K3.out neL1 neL2 q1)
    clear HXL
    have HXL := HXLn
    clear HXLn
    have K1n := Lib.hid (K1.out.far q1 (by omega))
    clear K1
    have K1 := K1n
    clear K1n
    have K2n := Lib.hid (K2.out.far q1 (by omega))
    clear K2
    have K2 := K2n
    clear K2n
    have K8n := Lib.hid (K8.out.far q1 (by omega))
    clear K8
    have K8 := K8n
    clear K8n
    have HBn := Lib.hid (HB.out.trans (q1.2.1 _ (by omega)))
    clear HB
    have HB := HBn
    clear HBn
    have K3n : Hid (Blk 34 w9 N3 (heC ⟨l.s, l.nu, l.lv, hold, A, l.m, c, a.st, true, a.p, a.nu⟩)) := Lib.hid q1.1
    clear K3
    have K3 := K3n
    clear K3n q1
    go_wp2_with fail
    exact bodyPost_ret (results_2 rfl _ w9 N3 (heC ⟨l.s, l.nu, l.lv, hold, A, l.m, c, a.st, true, a.p, a.nu⟩) (.int .i64 0) Try.underlying34 rfl info_heP rfl rfl K3.out) rfl (.inr ⟨HX.out, A, c, L1, by rw [show tellH l a hold A c = _ from HTH.out], HXL.out, HSL.out, HB.out⟩)
end Go.Proofs.Ytcngkfmjngeofaa

/- What a side tells, by the document; two hellos that are alike. Each theorem states its conditions. -/
namespace Go.Proofs.Ytcngkfmjngeofaa
open Go.RowKit
set_option linter.unusedVariables false

def DocTellP (w : World) (l : Lo) (a : Aj) (hold : Int) (e : Ending) (w' : World) : Prop :=
  (tellE l a hold ≠ 0 ∧ e = .returned (.tuple #[.agg (heC he0), .int .i64 (tellE l a hold)]) ∧ Below w.heap.size w w') ∨
  (tellE l a hold = 0 ∧ e = .returned (.tuple #[.agg (heC (tellH l a hold l.A l.c)), .int .i64 0]) ∧ Below w.heap.size w w')
theorem build_he0R (o : Oper) (e : Operand → Value) (ho : o.op = .build 30 #[]) (W : World) : (execOp e o).run Try.prog W = .ok (.value (.agg (heC he0))) W := by
  unfold execOp
  simp only [ho]
  kernel_rfl
theorem build_tellR (o : Oper) (e : Operand → Value) (x0 x1 x2 x3 x4 x5 : Operand) (ho : o.op = .build 30 #[(0, x0), (1, x1), (2, x2), (3, x3), (4, x4), (5, x5)]) (l : Lo) (st hold : Int) (A : Option Addr) (c : Nat)
    (h0 : e x0 = .agg (syC l.s)) (h1 : e x1 = .int .u8 l.nu) (h2 : e x2 = .int .i64 l.lv) (h3 : e x3 = .int .i64 hold) (h4 : e x4 = .slice A l.m c) (h5 : e x5 = .int .i64 st) (W : World) :
    (execOp e o).run Try.prog W = .ok (.value (.agg (heC (tell1 l st hold A c)))) W := by
  unfold execOp
  simp only [ho]
  simp only [List.map_toArray, List.map_cons, List.map_nil, h0, h1, h2, h3, h4, h5]
  kernel_rfl
set_option maxHeartbeats 20000000 in
set_option maxRecDepth 100000 in
theorem docTell_any (l : Lo) (a : Aj) (hold : Int) (w : World) (hm : l.m * 24 ≤ 140737488351232) :
    Calls Try.prog 17 #[.agg (loC l), .agg (ajC a), .int .i64 hold] w (DocTellP w l a hold) := by
  have HE : Hid (tellE l a hold = tellF (lvBad l.lv) (stBad a.st) (hoBad hold) (decide (3 < l.m))) := Lib.hid rfl
  obtain ⟨b1, hb1⟩ : ∃ b, lvBad l.lv = b := ⟨_, rfl⟩
  have D1 := Lib.hid (fun w => within_lv _ _ hb1 w)
  rw [hb1] at HE
  clear hb1
  obtain ⟨b2, hb2⟩ : ∃ b, stBad a.st = b := ⟨_, rfl⟩
  have D2 := Lib.hid (fun w => within_st _ _ hb2 w)
  have HS2 := Lib.hid hb2
  rw [hb2] at HE
  clear hb2
  obtain ⟨b3, hb3⟩ : ∃ b, hoBad hold = b := ⟨_, rfl⟩
  have D3 := Lib.hid (fun w => within_ho _ _ hb3 w)
  rw [hb3] at HE
  clear hb3
  go_enter Try.func17, Try.ntmps17
  have HB := Lib.hid (Below.refl w.heap.size w)
  obtain ⟨N1, hN1⟩ : ∃ N, w.heap.size = N := ⟨_, rfl⟩
  have HN1 := Lib.hid hN1
  clear hN1
  go_wp2_with (refine wpList_box (op := ⟨some 3, _, _, _, _, _⟩) rfl 26 (.tmp 0) rfl (loC l) rfl N1 HN1.out ?_; intro w1 k1 b1 s1; refine Hid.out ?_)
  refine Lib.hid ?_
  have K1 := Lib.hid k1
  clear k1
  have le_HB_N1 : w.heap.size ≤ N1 := by rw [← HN1.out]; exact HB.out.size
  have HBn := Lib.hid (HB.out.trans (b1.mono HB.out.size))
  clear HB
  have HB := HBn
  clear HBn
  clear b1 HN1
  obtain ⟨N2, hN2⟩ : ∃ N, w1.heap.size = N := ⟨_, rfl⟩
  have HN2 := Lib.hid hN2
  clear hN2
  go_wp2_with (refine wpList_box (op := ⟨some 4, _, _, _, _, _⟩) rfl 28 (.tmp 1) rfl (ajC a) rfl N2 HN2.out ?_; intro w2 k1 b1 s1; refine Hid.out ?_)
  refine Lib.hid ?_
  have K2 := Lib.hid k1
  clear k1
  have lt_N1_N2 : N1 < N2 := by rw [← HN2.out]; exact K1.out.lt
  have le_HB_N2 : w.heap.size ≤ N2 := by rw [← HN2.out]; exact HB.out.size
  have K1n := Lib.hid (K1.out.below b1 K1.out.lt)
  clear K1
  have K1 := K1n
  clear K1n
  have HBn := Lib.hid (HB.out.trans (b1.mono HB.out.size))
  clear HB
  have HB := HBn
  clear HBn
  clear b1 HN2
  obtain ⟨N3, hN3⟩ : ∃ N, w2.heap.size = N := ⟨_, rfl⟩
  have HN3 := Lib.hid hN3
  clear hN3
  go_wp2_with (refine wpList_new (op := ⟨some 6, _, _, _, _, _⟩) rfl 30 rfl (heC he0) zero_heR N3 HN3.out ?_; intro w3 k1 b1 s1; refine Hid.out ?_)
  refine Lib.hid ?_
  have K3 := Lib.hid k1
  clear k1
  have lt_N1_N3 : N1 < N3 := by rw [← HN3.out]; exact K1.out.lt
  have lt_N2_N3 : N2 < N3 := by rw [← HN3.out]; exact K2.out.lt
  have le_HB_N3 : w.heap.size ≤ N3 := by rw [← HN3.out]; exact HB.out.size
  have K1n := Lib.hid (K1.out.below b1 K1.out.lt)
  clear K1
  have K1 := K1n
  clear K1n
  have K2n := Lib.hid (K2.out.below b1 K2.out.lt)
  clear K2
  have K2 := K2n
  clear K2n
  have HBn := Lib.hid (HB.out.trans (b1.mono HB.out.size))
  clear HB
  have HB := HBn
  clear HBn
  clear b1 HN3
  have cK1_7 : w3.cell? ⟨N1, 7, none⟩ = some (.int .i64 l.lv) := (K1.out.cell 7).trans rfl
  have cK1_8 : w3.cell? ⟨N1, 8, none⟩ = some (.slice l.A l.m l.c) := (K1.out.cell 8).trans rfl
  have cK2_0 : w3.cell? ⟨N2, 0, none⟩ = some (.int .i64 a.st) := (K2.out.cell 0).trans rfl
  have cK1_6 : w3.cell? ⟨N1, 6, none⟩ = some (.int .u8 l.nu) := (K1.out.cell 6).trans rfl
  cases b1
  rotate_left
  · skip
    have HX : Hid (tellE l a hold = 1) := Lib.hid (by rw [HE.out]; first | rfl | simp [tellF] | (simp [tellF]; omega))
    clear HE HS2
    go_wp2_with (first | ((with_reducible refine (D1.out _).mono ?_); (rintro e wx ⟨rfl, rfl⟩)) | ((with_reducible refine (D2.out _).mono ?_); (rintro e wx ⟨rfl, rfl⟩)) | ((with_reducible refine (D3.out _).mono ?_); (rintro e wx ⟨rfl, rfl⟩)) | (refine wpList_v (op := ⟨some 24, _, _, _, _, _⟩) rfl _ (build_he0R _ _ rfl _) ?_; refine Hid.out ?_))
    refine Lib.hid ?_
    go_wp2_with (refine wpList_st rfl 30 (.tmp 6) (.tmp 24) rfl N3 0 rfl (.agg (heC he0)) (heC he0) rfl rfl info_heR (heC_one _) K3.out (Nat.le_of_ble_eq_true rfl) (C' := heC he0) (by kernel_rfl) ?_; intro w4 q1; refine Hid.out ?_)
    refine Lib.hid ?_
    have K1n := Lib.hid (K1.out.far q1 (by omega))
    clear K1
    have K1 := K1n
    clear K1n
    have K2n := Lib.hid (K2.out.far q1 (by omega))
    clear K2
    have K2 := K2n
    clear K2n
    have HBn := Lib.hid (HB.out.trans (q1.2.1 _ (by omega)))
    clear HB
    have HB := HBn
    clear HBn
    have K3n : Hid (Blk 30 w4 N3 (heC he0)) := Lib.hid q1.1
    clear K3
    have K3 := K3n
    clear K3n q1
    go_wp2_with fail
    exact bodyPost_ret (results_2 rfl _ w4 N3 (heC he0) (.int .i64 1) Try.underlying30 rfl info_heR rfl rfl K3.out) rfl (.inl ⟨by rw [HX.out]; decide, by rw [HX.out], HB.out⟩)
  cases b2
  rotate_left
  · skip
    have HX : Hid (tellE l a hold = 1) := Lib.hid (by rw [HE.out]; first | rfl | simp [tellF] | (simp [tellF]; omega))
    clear HE HS2
    go_wp2_with (first | ((with_reducible refine (D1.out _).mono ?_); (rintro e wx ⟨rfl, rfl⟩)) | ((with_reducible refine (D2.out _).mono ?_); (rintro e wx ⟨rfl, rfl⟩)) | ((with_reducible refine (D3.out _).mono ?_); (rintro e wx ⟨rfl, rfl⟩)) | (refine wpList_v (op := ⟨some 24, _, _, _, _, _⟩) rfl _ (build_he0R _ _ rfl _) ?_; refine Hid.out ?_))
    refine Lib.hid ?_
    go_wp2_with (refine wpList_st rfl 30 (.tmp 6) (.tmp 24) rfl N3 0 rfl (.agg (heC he0)) (heC he0) rfl rfl info_heR (heC_one _) K3.out (Nat.le_of_ble_eq_true rfl) (C' := heC he0) (by kernel_rfl) ?_; intro w4 q1; refine Hid.out ?_)
    refine Lib.hid ?_
    have K1n := Lib.hid (K1.out.far q1 (by omega))
    clear K1
    have K1 := K1n
    clear K1n
    have K2n := Lib.hid (K2.out.far q1 (by omega))
    clear K2
    have K2 := K2n
    clear K2n
    have HBn := Lib.hid (HB.out.trans (q1.2.1 _ (by omega)))
    clear HB
    have HB := HBn
    clear HBn
    have K3n : Hid (Blk 30 w4 N3 (heC he0)) := Lib.hid q1.1
    clear K3
    have K3 := K3n
    clear K3n q1
    go_wp2_with fail
    exact bodyPost_ret (results_2 rfl _ w4 N3 (heC he0) (.int .i64 1) Try.underlying30 rfl info_heR rfl rfl K3.out) rfl (.inl ⟨by rw [HX.out]; decide, by rw [HX.out], HB.out⟩)
  cases b3
  rotate_left
  · skip
    have HX : Hid (tellE l a hold = 1) := Lib.hid (by rw [HE.out]; first | rfl | simp [tellF] | (simp [tellF]; omega))
    clear HE HS2
    go_wp2_with (first | ((with_reducible refine (D1.out _).mono ?_); (rintro e wx ⟨rfl, rfl⟩)) | ((with_reducible refine (D2.out _).mono ?_); (rintro e wx ⟨rfl, rfl⟩)) | ((with_reducible refine (D3.out _).mono ?_); (rintro e wx ⟨rfl, rfl⟩)) | (refine wpList_v (op := ⟨some 24, _, _, _, _, _⟩) rfl _ (build_he0R _ _ rfl _) ?_; refine Hid.out ?_))
    refine Lib.hid ?_
    go_wp2_with (refine wpList_st rfl 30 (.tmp 6) (.tmp 24) rfl N3 0 rfl (.agg (heC he0)) (heC he0) rfl rfl info_heR (heC_one _) K3.out (Nat.le_of_ble_eq_true rfl) (C' := heC he0) (by kernel_rfl) ?_; intro w4 q1; refine Hid.out ?_)
    refine Lib.hid ?_
    have K1n := Lib.hid (K1.out.far q1 (by omega))
    clear K1
    have K1 := K1n
    clear K1n
    have K2n := Lib.hid (K2.out.far q1 (by omega))
    clear K2
    have K2 := K2n
    clear K2n
    have HBn := Lib.hid (HB.out.trans (q1.2.1 _ (by omega)))
    clear HB
    have HB := HBn
    clear HBn
    have K3n : Hid (Blk 30 w4 N3 (heC he0)) := Lib.hid q1.1
    clear K3
    have K3 := K3n
    clear K3n q1
    go_wp2_with fail
    exact bodyPost_ret (results_2 rfl _ w4 N3 (heC he0) (.int .i64 1) Try.underlying30 rfl info_heR rfl rfl K3.out) rfl (.inl ⟨by rw [HX.out]; decide, by rw [HX.out], HB.out⟩)
  by_cases n3 : 3 < l.m
  · skip
    rw [decide_eq_true n3] at HE
    have n3i : (3 : Int) < ((l.m : Nat) : Int) := by omega
    have HX : Hid (tellE l a hold = 2) := Lib.hid (by rw [HE.out]; first | rfl | simp [tellF] | (simp [tellF]; omega))
    clear HE HS2
    go_wp2_with (first | ((with_reducible refine (D1.out _).mono ?_); (rintro e wx ⟨rfl, rfl⟩)) | ((with_reducible refine (D2.out _).mono ?_); (rintro e wx ⟨rfl, rfl⟩)) | ((with_reducible refine (D3.out _).mono ?_); (rintro e wx ⟨rfl, rfl⟩)) | (refine wpList_v (op := ⟨some 29, _, _, _, _, _⟩) rfl _ (build_he0R _ _ rfl _) ?_; refine Hid.out ?_))
    refine Lib.hid ?_
    go_wp2_with (refine wpList_st rfl 30 (.tmp 6) (.tmp 29) rfl N3 0 rfl (.agg (heC he0)) (heC he0) rfl rfl info_heR (heC_one _) K3.out (Nat.le_of_ble_eq_true rfl) (C' := heC he0) (by kernel_rfl) ?_; intro w4 q1; refine Hid.out ?_)
    refine Lib.hid ?_
    have K1n := Lib.hid (K1.out.far q1 (by omega))
    clear K1
    have K1 := K1n
    clear K1n
    have K2n := Lib.hid (K2.out.far q1 (by omega))
    clear K2
    have K2 := K2n
    clear K2n
    have HBn := Lib.hid (HB.out.trans (q1.2.1 _ (by omega)))
    clear HB
    have HB := HBn
    clear HBn
    have K3n : Hid (Blk 30 w4 N3 (heC he0)) := Lib.hid q1.1
    clear K3
    have K3 := K3n
    clear K3n q1
    go_wp2_with fail
    exact bodyPost_ret (results_2 rfl _ w4 N3 (heC he0) (.int .i64 2) Try.underlying30 rfl info_heR rfl rfl K3.out) rfl (.inl ⟨by rw [HX.out]; decide, by rw [HX.out], HB.out⟩)
  rw [decide_eq_false n3] at HE
  have n3i : ¬ (3 : Int) < ((l.m : Nat) : Int) := by omega
  have HX : Hid (tellE l a hold = 0) := Lib.hid HE.out
  clear HE
  have hst : 0 ≤ a.st ∧ a.st ≤ 2 := by have := HS2.out; simp [stBad] at this; omega
  go_wp2_with (first | ((with_reducible refine (D1.out _).mono ?_); (rintro e wx ⟨rfl, rfl⟩)) | ((with_reducible refine (D2.out _).mono ?_); (rintro e wx ⟨rfl, rfl⟩)) | ((with_reducible refine (D3.out _).mono ?_); (rintro e wx ⟨rfl, rfl⟩)) | (refine wpList_ld (op := ⟨some 31, _, _, _, _, _⟩) (by rfl) 23 (.tmp 30) rfl N1 0 rfl (syC l.s) _ K1.out.los Try.underlying23 rfl info_sys ?_; refine Hid.out ?_))
  refine Lib.hid ?_
  go_wp2_with (refine wpList_v (op := ⟨some 41, _, _, _, _, _⟩) rfl _ (build_tellR _ _ _ _ _ _ _ _ rfl l a.st hold l.A l.c rfl rfl rfl rfl rfl rfl _) ?_; refine Hid.out ?_)
  refine Lib.hid ?_
  clear cK1_7 cK1_8 cK2_0 cK1_6 D1 D2 D3 n3 n3i HS2
  obtain ⟨N4, hN4⟩ : ∃ N, w3.heap.size = N := ⟨_, rfl⟩
  have HN4 := Lib.hid hN4
  clear hN4
  go_wp2_with (refine wpList_new (op := ⟨some 8, _, _, _, _, _⟩) rfl 30 rfl (heC he0) zero_heR N4 HN4.out ?_; intro w4 k1 b1 s1; refine Hid.out ?_)
  refine Lib.hid ?_
  have K8 := Lib.hid k1
  clear k1
  have lt_N1_N4 : N1 < N4 := by rw [← HN4.out]; exact K1.out.lt
  have lt_N2_N4 : N2 < N4 := by rw [← HN4.out]; exact K2.out.lt
  have lt_N3_N4 : N3 < N4 := by rw [← HN4.out]; exact K3.out.lt
  have le_HB_N4 : w.heap.size ≤ N4 := by rw [← HN4.out]; exact HB.out.size
  have K1n := Lib.hid (K1.out.below b1 K1.out.lt)
  clear K1
  have K1 := K1n
  clear K1n
  have K2n := Lib.hid (K2.out.below b1 K2.out.lt)
  clear K2
  have K2 := K2n
  clear K2n
  have K3n := Lib.hid (K3.out.below b1 K3.out.lt)
  clear K3
  have K3 := K3n
  clear K3n
  have HBn := Lib.hid (HB.out.trans (b1.mono HB.out.size))
  clear HB
  have HB := HBn
  clear HBn
  clear b1 HN4
  go_wp2_with (refine wpList_st rfl 30 (.tmp 8) (.tmp 41) rfl N4 0 rfl (.agg (heC (tell1 l a.st hold l.A l.c))) (heC (tell1 l a.st hold l.A l.c)) rfl rfl info_heR (heC_one _) K8.out (Nat.le_of_ble_eq_true rfl) (C' := heC (tell1 l a.st hold l.A l.c)) (by kernel_rfl) ?_; intro w5 q1; refine Hid.out ?_)
  refine Lib.hid ?_
  have K1n := Lib.hid (K1.out.far q1 (by omega))
  clear K1
  have K1 := K1n
  clear K1n
  have K2n := Lib.hid (K2.out.far q1 (by omega))
  clear K2
  have K2 := K2n
  clear K2n
  have K3n := Lib.hid (K3.out.far q1 (by omega))
  clear K3
  have K3 := K3n
  clear K3n
  have HBn := Lib.hid (HB.out.trans (q1.2.1 _ (by omega)))
  clear HB
  have HB := HBn
  clear HBn
  have K8n : Hid (Blk 30 w5 N4 (heC (tell1 l a.st hold l.A l.c))) := Lib.hid q1.1
  clear K8
  have K8 := K8n
  clear K8n q1
  have c0 : w5.cell? ⟨N2, 0, none⟩ = some (.int .i64 a.st) := (K2.out.cell 0).trans rfl
  by_cases h2 : a.st < 2
  · skip
    have htb : thB a.st = true := by rcases (by omega : a.st = 0 ∨ a.st = 1) with e | e <;> rw [e] <;> rfl
    have HTH : Hid (tellH l a hold l.A l.c = ⟨l.s, l.nu, l.lv, hold, l.A, l.m, l.c, a.st, true, a.p, a.nu⟩) := Lib.hid (by unfold tellH; rw [htb]; rfl)
    clear htb hst
    go_wp2_with fail
    clear c0 h2
    have K8d : Hid (Blk 30 w5.drew N4 (heC (tell1 l a.st hold l.A l.c))) := Lib.hid K8.out
    clear K8
    refine wp_region_held_drew (S := fun w' => Blk 26 w' N1 (loC l) ∧ Blk 28 w' N2 (ajC a) ∧ Blk 30 w' N3 (heC he0) ∧ Below w.heap.size w w') (by kernel_rfl) ⟨K1.out, K2.out, K3.out, HB.out.drew⟩ (fun hS => ?_)
    generalize hW6 : w5.drew = W6 at hS K8d ⊢
    clear hW6
    clear K1
    clear K2
    clear K3
    clear HB
    have K8 := K8d
    clear K8d
    have K1 := Lib.hid hS.1
    have K2 := Lib.hid hS.2.1
    have K3 := Lib.hid hS.2.2.1
    have HB := Lib.hid hS.2.2.2
    refine takeY (i := 0) (some 45) (v := .pointer (some ⟨N2, 1, none⟩)) rfl rfl (by kernel_rfl) (by kernel_rfl) (by kernel_rfl) (fun _ _ _ h => h) (by rfl) (fun w' hS => by go_simp) hS ?_
    simp only [Act.put, List.setIfInBounds_toArray, List.set_cons_zero, List.set_cons_succ]
    refine takeL (i := 1) (some 46) 23 (.tmp 45) N2 1 (syC a.p) _ rfl rfl (by kernel_rfl) (by kernel_rfl) (by kernel_rfl) (fun _ _ _ h => h) (by rfl) rfl rfl (fun w' hS => hS.2.1.ajp) Try.underlying23 rfl info_sys hS ?_
    simp only [Act.put, List.setIfInBounds_toArray, List.set_cons_zero, List.set_cons_succ]
    refine takeY (i := 2) (some 47) (v := .pointer (some ⟨N2, 7, none⟩)) rfl rfl (by kernel_rfl) (by kernel_rfl) (by kernel_rfl) (fun _ _ _ h => h) (by rfl) (fun w' hS => by go_simp) hS ?_
    simp only [Act.put, List.setIfInBounds_toArray, List.set_cons_zero, List.set_cons_succ]
    refine takeY (i := 3) (some 48) (v := .int .u8 a.nu) rfl rfl (by kernel_rfl) (by kernel_rfl) (by kernel_rfl) (fun _ _ _ h => h) (by rfl) (fun w' hS => by (have c9 : w'.cell? ⟨N2, 7, none⟩ = some (.int .u8 a.nu) := (hS.2.1.cell 7).trans rfl; clear hS; go_simp)) hS ?_
    simp only [Act.put, List.setIfInBounds_toArray, List.set_cons_zero, List.set_cons_succ]
    refine takeY (i := 4) (some 49) (v := .pointer (some ⟨N4, 11, none⟩)) rfl rfl (by kernel_rfl) (by kernel_rfl) (by kernel_rfl) (fun _ _ _ h => h) (by rfl) (fun w' hS => by go_simp) hS ?_
    simp only [Act.put, List.setIfInBounds_toArray, List.set_cons_zero, List.set_cons_succ]
    refine takeSt (i := 5) 4 (.tmp 49) (.const (.bool true)) N4 11 (.bool true) (#[.bool true]) (heC ⟨l.s, l.nu, l.lv, hold, l.A, l.m, l.c, a.st, true, z0, 0⟩) rfl rfl (by kernel_rfl) (by rfl) rfl rfl rfl rfl (by kernel_rfl) (by kernel_rfl) K8.out (Nat.le_of_ble_eq_true rfl) (by kernel_rfl) ?_
    intro W7 q1
    refine ⟨⟨K1.out.far q1 (by omega), K2.out.far q1 (by omega), K3.out.far q1 (by omega), HB.out.trans (q1.2.1 _ (by omega))⟩, ?_⟩
    simp only [Act.put, List.setIfInBounds_toArray, List.set_cons_zero, List.set_cons_succ]
    have K8n : Hid (Blk 30 W7 N4 (heC ⟨l.s, l.nu, l.lv, hold, l.A, l.m, l.c, a.st, true, z0, 0⟩)) := Lib.hid q1.1
    clear K8
    have K8 := K8n
    clear K8n
    have K1n := Lib.hid (K1.out.far q1 (by omega))
    clear K1
    have K1 := K1n
    clear K1n
    have K2n := Lib.hid (K2.out.far q1 (by omega))
    clear K2
    have K2 := K2n
    clear K2n
    have K3n := Lib.hid (K3.out.far q1 (by omega))
    clear K3
    have K3 := K3n
    clear K3n
    have HBn := Lib.hid (HB.out.trans (q1.2.1 _ (by omega)))
    clear HB
    have HB := HBn
    clear HBn
    clear q1 hS
    have hS := (And.intro K1.out (And.intro K2.out (And.intro K3.out HB.out)))
    refine takeY (i := 6) (some 50) (v := .pointer (some ⟨N4, 12, none⟩)) rfl rfl (by kernel_rfl) (by kernel_rfl) (by kernel_rfl) (fun _ _ _ h => h) (by rfl) (fun w' hS => by go_simp) hS ?_
    simp only [Act.put, List.setIfInBounds_toArray, List.set_cons_zero, List.set_cons_succ]
    refine takeSt (i := 7) 23 (.tmp 50) (.tmp 46) N4 12 (.agg (syC a.p)) (syC a.p) (heC ⟨l.s, l.nu, l.lv, hold, l.A, l.m, l.c, a.st, true, a.p, 0⟩) rfl rfl (by kernel_rfl) (by rfl) rfl rfl rfl rfl info_sys (syC_one _) K8.out (Nat.le_of_ble_eq_true rfl) (by kernel_rfl) ?_
    intro W8 q1
    refine ⟨⟨K1.out.far q1 (by omega), K2.out.far q1 (by omega), K3.out.far q1 (by omega), HB.out.trans (q1.2.1 _ (by omega))⟩, ?_⟩
    simp only [Act.put, List.setIfInBounds_toArray, List.set_cons_zero, List.set_cons_succ]
    have K8n : Hid (Blk 30 W8 N4 (heC ⟨l.s, l.nu, l.lv, hold, l.A, l.m, l.c, a.st, true, a.p, 0⟩)) := Lib.hid q1.1
    clear K8
    have K8 := K8n
    clear K8n
    have K1n := Lib.hid (K1.out.far q1 (by omega))
    clear K1
    have K1 := K1n
    clear K1n
    have K2n := Lib.hid (K2.out.far q1 (by omega))
    clear K2
    have K2 := K2n
    clear K2n
    have K3n := Lib.hid (K3.out.far q1 (by omega))
    clear K3
    have K3 := K3n
    clear K3n
    have HBn := Lib.hid (HB.out.trans (q1.2.1 _ (by omega)))
    clear HB
    have HB := HBn
    clear HBn
    clear q1 hS
    have hS := (And.intro K1.out (And.intro K2.out (And.intro K3.out HB.out)))
    refine takeY (i := 8) (some 51) (v := .pointer (some ⟨N4, 18, none⟩)) rfl rfl (by kernel_rfl) (by kernel_rfl) (by kernel_rfl) (fun _ _ _ h => h) (by rfl) (fun w' hS => by go_simp) hS ?_
    simp only [Act.put, List.setIfInBounds_toArray, List.set_cons_zero, List.set_cons_succ]
    refine takeSt (i := 9) 5 (.tmp 51) (.tmp 48) N4 18 (.int .u8 a.nu) (#[.int .u8 a.nu]) (heC ⟨l.s, l.nu, l.lv, hold, l.A, l.m, l.c, a.st, true, a.p, a.nu⟩) rfl rfl (by kernel_rfl) (by rfl) rfl rfl rfl rfl (by kernel_rfl) (by kernel_rfl) K8.out (Nat.le_of_ble_eq_true rfl) (by kernel_rfl) ?_
    intro W9 q1
    refine ⟨⟨K1.out.far q1 (by omega), K2.out.far q1 (by omega), K3.out.far q1 (by omega), HB.out.trans (q1.2.1 _ (by omega))⟩, ?_⟩
    simp only [Act.put, List.setIfInBounds_toArray, List.set_cons_zero, List.set_cons_succ]
    have K8n : Hid (Blk 30 W9 N4 (heC ⟨l.s, l.nu, l.lv, hold, l.A, l.m, l.c, a.st, true, a.p, a.nu⟩)) := Lib.hid q1.1
    clear K8
    have K8 := K8n
    clear K8n
    have K1n := Lib.hid (K1.out.far q1 (by omega))
    clear K1
    have K1 := K1n
    clear K1n
    have K2n := Lib.hid (K2.out.far q1 (by omega))
    clear K2
    have K2 := K2n
    clear K2n
    have K3n := Lib.hid (K3.out.far q1 (by omega))
    clear K3
    have K3 := K3n
    clear K3n
    have HBn := Lib.hid (HB.out.trans (q1.2.1 _ (by omega)))
    clear HB
    have HB := HBn
    clear HBn
    clear q1 hS
    have hS := (And.intro K1.out (And.intro K2.out (And.intro K3.out HB.out)))
    clear hS
    refine wpAnyH_done (by kernel_rfl) ?_ _
    go_wp2_with (refine wpList_ld (op := ⟨some 52, _, _, _, _, _⟩) (by rfl) 30 (.tmp 8) rfl N4 0 rfl (heC ⟨l.s, l.nu, l.lv, hold, l.A, l.m, l.c, a.st, true, a.p, a.nu⟩) _ K8.out.all Try.underlying30 rfl info_heR ?_; refine Hid.out ?_)
    refine Lib.hid ?_
    go_wp2_with (refine wpList_st rfl 30 (.tmp 6) (.tmp 52) rfl N3 0 rfl (.agg (heC ⟨l.s, l.nu, l.lv, hold, l.A, l.m, l.c, a.st, true, a.p, a.nu⟩)) (heC ⟨l.s, l.nu, l.lv, hold, l.A, l.m, l.c, a.st, true, a.p, a.nu⟩) rfl rfl info_heR (heC_one _) K3.out (Nat.le_of_ble_eq_true rfl) (C' := heC ⟨l.s, l.nu, l.lv, hold, l.A, l.m, l.c, a.st, true, a.p, a.nu⟩) (by kernel_rfl) ?_; intro w10 q1; refine Hid.out ?_)
    refine Lib.hid ?_
    have K1n := Lib.hid (K1.out.far q1 (by omega))
    clear K1
    have K1 := K1n
    clear K1n
    have K2n := Lib.hid (K2.out.far q1 (by omega))
    clear K2
    have K2 := K2n
    clear K2n
    have K8n := Lib.hid (K8.out.far q1 (by omega))
    clear K8
    have K8 := K8n
    clear K8n
    have HBn := Lib.hid (HB.out.trans (q1.2.1 _ (by omega)))
    clear HB
    have HB := HBn
    clear HBn
    have K3n : Hid (Blk 30 w10 N3 (heC ⟨l.s, l.nu, l.lv, hold, l.A, l.m, l.c, a.st, true, a.p, a.nu⟩)) := Lib.hid q1.1
    clear K3
    have K3 := K3n
    clear K3n q1
    go_wp2_with fail
    exact bodyPost_ret (results_2 rfl _ w10 N3 (heC ⟨l.s, l.nu, l.lv, hold, l.A, l.m, l.c, a.st, true, a.p, a.nu⟩) (.int .i64 0) Try.underlying30 rfl info_heR rfl rfl K3.out) rfl (.inr ⟨HX.out, by rw [show tellH l a hold l.A l.c = _ from HTH.out], HB.out⟩)
  · skip
    have htb : thB a.st = false := by rw [show a.st = 2 by omega]; rfl
    have HTH : Hid (tellH l a hold l.A l.c = tell1 l a.st hold l.A l.c) := Lib.hid (by unfold tellH tell1; rw [htb]; rfl)
    clear htb hst
    go_wp2_with (refine wpList_ld (op := ⟨some 52, _, _, _, _, _⟩) (by rfl) 30 (.tmp 8) rfl N4 0 rfl (heC (tell1 l a.st hold l.A l.c)) _ K8.out.all Try.underlying30 rfl info_heR ?_; refine Hid.out ?_)
    refine Lib.hid ?_
    go_wp2_with (refine wpList_st rfl 30 (.tmp 6) (.tmp 52) rfl N3 0 rfl (.agg (heC (tell1 l a.st hold l.A l.c))) (heC (tell1 l a.st hold l.A l.c)) rfl rfl info_heR (heC_one _) K3.out (Nat.le_of_ble_eq_true rfl) (C' := heC (tell1 l a.st hold l.A l.c)) (by kernel_rfl) ?_; intro w6 q1; refine Hid.out ?_)
    refine Lib.hid ?_
    have K1n := Lib.hid (K1.out.far q1 (by omega))
    clear K1
    have K1 := K1n
    clear K1n
    have K2n := Lib.hid (K2.out.far q1 (by omega))
    clear K2
    have K2 := K2n
    clear K2n
    have K8n := Lib.hid (K8.out.far q1 (by omega))
    clear K8
    have K8 := K8n
    clear K8n
    have HBn := Lib.hid (HB.out.trans (q1.2.1 _ (by omega)))
    clear HB
    have HB := HBn
    clear HBn
    have K3n : Hid (Blk 30 w6 N3 (heC (tell1 l a.st hold l.A l.c))) := Lib.hid q1.1
    clear K3
    have K3 := K3n
    clear K3n q1
    go_wp2_with fail
    exact bodyPost_ret (results_2 rfl _ w6 N3 (heC (tell1 l a.st hold l.A l.c)) (.int .i64 0) Try.underlying30 rfl info_heR rfl rfl K3.out) rfl (.inr ⟨HX.out, by rw [show tellH l a hold l.A l.c = _ from HTH.out], HB.out⟩)
set_option maxHeartbeats 20000000 in
set_option maxRecDepth 100000 in
theorem sameH_yes (h : He) (A B : Option Addr) (c d : Nat) (L L' : Nat → Sl) (w : World) (hs : byB h.s) (ht : byB h.th) (ha : RdS w A h.m L) (hb : RdS w B h.m L') (he : ∀ j, j < h.m → sameS (L j) (L' j)) (hm : h.m ≤ 9223372036854775807) :
    Calls Try.prog 18 #[.agg (heC ⟨h.s, h.nu, h.lv, h.ho, A, h.m, c, h.st, h.nm, h.th, h.tn⟩), .agg (heC ⟨h.s, h.nu, h.lv, h.ho, B, h.m, d, h.st, h.nm, h.th, h.tn⟩)] w fun e w' => e = .returned (.bool true) ∧ Below w.heap.size w w' := by
  have HA := Lib.hid ha
  have HBB := Lib.hid hb
  have HS := Lib.hid hs
  have HT := Lib.hid ht
  have HEE := Lib.hid he
  have HS6 : Hid (eqY h.s h.s = true) := Lib.hid (by unfold eqY; simp)
  have HT6 : Hid (eqY h.th h.th = true) := Lib.hid (by unfold eqY; simp)
  clear ha hb hs ht he
  go_enter Try.func18, Try.ntmps18
  have HB := Lib.hid (Below.refl w.heap.size w)
  obtain ⟨N1, hN1⟩ : ∃ N, w.heap.size = N := ⟨_, rfl⟩
  have HN1 := Lib.hid hN1
  clear hN1
  go_wp2_with (refine wpList_box (op := ⟨some 2, _, _, _, _, _⟩) rfl 30 (.tmp 0) rfl (heC ⟨h.s, h.nu, h.lv, h.ho, A, h.m, c, h.st, h.nm, h.th, h.tn⟩) rfl N1 HN1.out ?_; intro w1 k1 b1 s1; refine Hid.out ?_)
  refine Lib.hid ?_
  have K1 := Lib.hid k1
  clear k1
  have le_HB_N1 : w.heap.size ≤ N1 := by rw [← HN1.out]; exact HB.out.size
  have HBn := Lib.hid (HB.out.trans (b1.mono HB.out.size))
  clear HB
  have HB := HBn
  clear HBn
  clear b1 HN1
  obtain ⟨N2, hN2⟩ : ∃ N, w1.heap.size = N := ⟨_, rfl⟩
  have HN2 := Lib.hid hN2
  clear hN2
  go_wp2_with (refine wpList_box (op := ⟨some 3, _, _, _, _, _⟩) rfl 30 (.tmp 1) rfl (heC ⟨h.s, h.nu, h.lv, h.ho, B, h.m, d, h.st, h.nm, h.th, h.tn⟩) rfl N2 HN2.out ?_; intro w2 k1 b1 s1; refine Hid.out ?_)
  refine Lib.hid ?_
  have K2 := Lib.hid k1
  clear k1
  have lt_N1_N2 : N1 < N2 := by rw [← HN2.out]; exact K1.out.lt
  have le_HB_N2 : w.heap.size ≤ N2 := by rw [← HN2.out]; exact HB.out.size
  have K1n := Lib.hid (K1.out.below b1 K1.out.lt)
  clear K1
  have K1 := K1n
  clear K1n
  have HBn := Lib.hid (HB.out.trans (b1.mono HB.out.size))
  clear HB
  have HB := HBn
  clear HBn
  clear b1 HN2
  have cK1_6 : w2.cell? ⟨N1, 6, none⟩ = some (.int .u8 h.nu) := (K1.out.cell 6).trans rfl
  have cK1_7 : w2.cell? ⟨N1, 7, none⟩ = some (.int .i64 h.lv) := (K1.out.cell 7).trans rfl
  have cK1_8 : w2.cell? ⟨N1, 8, none⟩ = some (.int .i64 h.ho) := (K1.out.cell 8).trans rfl
  have cK1_9 : w2.cell? ⟨N1, 9, none⟩ = some (.slice A h.m c) := (K1.out.cell 9).trans rfl
  have cK1_10 : w2.cell? ⟨N1, 10, none⟩ = some (.int .i64 h.st) := (K1.out.cell 10).trans rfl
  have cK1_11 : w2.cell? ⟨N1, 11, none⟩ = some (.bool h.nm) := (K1.out.cell 11).trans rfl
  have cK1_18 : w2.cell? ⟨N1, 18, none⟩ = some (.int .u8 h.tn) := (K1.out.cell 18).trans rfl
  have cK2_6 : w2.cell? ⟨N2, 6, none⟩ = some (.int .u8 h.nu) := (K2.out.cell 6).trans rfl
  have cK2_7 : w2.cell? ⟨N2, 7, none⟩ = some (.int .i64 h.lv) := (K2.out.cell 7).trans rfl
  have cK2_8 : w2.cell? ⟨N2, 8, none⟩ = some (.int .i64 h.ho) := (K2.out.cell 8).trans rfl
  have cK2_9 : w2.cell? ⟨N2, 9, none⟩ = some (.slice B h.m d) := (K2.out.cell 9).trans rfl
  have cK2_10 : w2.cell? ⟨N2, 10, none⟩ = some (.int .i64 h.st) := (K2.out.cell 10).trans rfl
  have cK2_11 : w2.cell? ⟨N2, 11, none⟩ = some (.bool h.nm) := (K2.out.cell 11).trans rfl
  have cK2_18 : w2.cell? ⟨N2, 18, none⟩ = some (.int .u8 h.tn) := (K2.out.cell 18).trans rfl
  go_wp2_with (refine wpList_ld (op := ⟨some 6, _, _, _, _, _⟩) (by rfl) 23 (.tmp 5) rfl N1 0 rfl (syC h.s) _ K1.out.hes Try.underlying23 rfl info_sys ?_; refine Hid.out ?_)
  refine Lib.hid ?_
  go_wp2_with (refine wpList_ld (op := ⟨some 8, _, _, _, _, _⟩) (by rfl) 23 (.tmp 7) rfl N2 0 rfl (syC h.s) _ K2.out.hes Try.underlying23 rfl info_sys ?_; refine Hid.out ?_)
  refine Lib.hid ?_
  go_wp2_with (refine wpList_gv (op := ⟨some 9, _, _, _, _, _⟩) _ (by rfl) (sys_eql _ _ _ _ _ rfl rfl h.s h.s HS.out HS.out rfl rfl _ HS6.out _) ?_; refine Hid.out ?_)
  refine Lib.hid ?_
  go_wp2_with (refine wpList_ld (op := ⟨some 47, _, _, _, _, _⟩) (by rfl) 23 (.tmp 46) rfl N1 12 rfl (syC h.th) _ K1.out.het Try.underlying23 rfl info_sys ?_; refine Hid.out ?_)
  refine Lib.hid ?_
  go_wp2_with (refine wpList_ld (op := ⟨some 49, _, _, _, _, _⟩) (by rfl) 23 (.tmp 48) rfl N2 12 rfl (syC h.th) _ K2.out.het Try.underlying23 rfl info_sys ?_; refine Hid.out ?_)
  refine Lib.hid ?_
  go_wp2_with (refine wpList_gv (op := ⟨some 50, _, _, _, _, _⟩) _ (by rfl) (sys_eql _ _ _ _ _ rfl rfl h.th h.th HT.out HT.out rfl rfl _ HT6.out _) ?_; refine Hid.out ?_)
  refine Lib.hid ?_
  go_wp2_with fail
  refine (sameAreas_yes A B h.m c d L L' w2 (HA.out.below HB.out) (HBB.out.below HB.out) HEE.out hm).mono ?_
  rintro e wz ⟨rfl, r, hwz⟩
  have HBz : Hid (Below w.heap.size w wz) := Lib.hid (by rw [hwz]; exact bdrewN HB.out r)
  clear hwz
  go_wp2_with fail
  go_ret
  exact ⟨rfl, HBz.out⟩
end Go.Proofs.Ytcngkfmjngeofaa

/- The walk of AdjTells: for every input the law returns true, and nothing that was there is written. No condition. -/
namespace Go.Proofs.Ytcngkfmjngeofaa
open Go.RowKit
set_option linter.unusedVariables false

theorem OwnV.poke {w : World} {base : Nat} {t : Sl} {g k : Nat} {v : Int} {cur : Array Value} (h : OwnV w base t) (hg : w.heap[g]? = some (.cells cur 5 (0, 0))) (hv : 0 ≤ v ∧ v ≤ 255) :
    ∃ z', OwnV (w.setCell ⟨g, k, none⟩ (.int .u8 v)) base ⟨t.A, t.n, t.c, z'⟩ := by
  obtain ⟨h2, h | ⟨g', h3, h4, h5⟩⟩ := h
  · exact ⟨t.z, h2, .inl h⟩
  · by_cases e : g' = g
    · subst e
      obtain ⟨⟨cur', hc, k1, k2, k3, k4⟩, k5⟩ := h5
      refine ⟨upd t.z k v, h2, .inr ⟨g', h3, h4, ⟨cur'.setIfInBounds k (.int .u8 v), ?_, k1, k2, by simpa using k3, fun j hj => ?_⟩, upd_bd k5 k v hv⟩⟩
      · simp [World.setCell, Array.getElem?_modify, hc]
      · rw [Array.getElem?_setIfInBounds]
        by_cases e2 : k = j
        · subst e2
          have hj2 : k < cur'.size := by have hj3 : k < t.n := hj; omega
          rw [if_pos rfl, if_pos hj2]
          show _ = some (Value.int .u8 (upd t.z k v k))
          rw [upd_same]
        · rw [if_neg e2]
          show _ = some (Value.int .u8 (upd t.z k v j))
          rw [upd_other t.z k j v (fun x => e2 x.symm)]
          exact k4 j hj
    · exact ⟨t.z, h2, .inr ⟨g', h3, h4, h5.far e _⟩⟩
theorem OwnS.poke {w : World} {base m : Nat} {vv : Value} {L : Nat → Sl} {g k : Nat} {v : Int} {cur : Array Value} (h : OwnS w base vv m L) (hg : w.heap[g]? = some (.cells cur 5 (0, 0))) (hv : 0 ≤ v ∧ v ≤ 255) :
    ∃ L', (∀ j, (L' j).A = (L j).A ∧ (L' j).n = (L j).n ∧ (L' j).c = (L j).c) ∧ OwnS (w.setCell ⟨g, k, none⟩ (.int .u8 v)) base vv m L' := by
  have each : ∀ j, ∃ z', j < m → OwnV (w.setCell ⟨g, k, none⟩ (.int .u8 v)) base ⟨(L j).A, (L j).n, (L j).c, z'⟩ := by
    intro j
    by_cases hj : j < m
    · obtain ⟨z', hz⟩ := (h.2 j hj).poke (k := k) hg hv
      exact ⟨z', fun _ => hz⟩
    · exact ⟨fun _ => 0, fun hh => absurd hh hj⟩
  refine ⟨fun j => ⟨(L j).A, (L j).n, (L j).c, (each j).choose⟩, fun j => ⟨rfl, rfl, rfl⟩, ?_, fun j hj => (each j).choose_spec hj⟩
  rw [show cellsS (fun j => (⟨(L j).A, (L j).n, (L j).c, (each j).choose⟩ : Sl)) m = cellsS L m from cellsS_congr _ _ m (fun j hj => ⟨rfl, rfl, rfl⟩)]
  refine ⟨h.1.1, ?_⟩
  rcases h.1.2 with h | ⟨g0, cap, cur0, hv0, hg0, hc0, r⟩
  · exact .inl h
  · refine .inr ⟨g0, cap, cur0, hv0, hg0, ?_, r⟩
    rw [Below.heap_setCell w ⟨g, k, none⟩ _ g0 ?_]
    · exact hc0
    · intro e
      have e : g0 = g := e
      subst e
      rw [hg] at hc0
      simp at hc0
theorem Blk.poke {w : World} {t : TypeId} {N : Nat} {C : Array Value} {g k : Nat} {v : Value} {cur : Array Value} (h : Blk t w N C) (hg : w.heap[g]? = some (.cells cur 5 (0, 0))) (ht : t ≠ 5) : Blk t (w.setCell ⟨g, k, none⟩ v) N C := by
  unfold Blk at h ⊢
  rw [Below.heap_setCell w ⟨g, k, none⟩ _ N ?_]
  · exact h
  · intro e
    have e : N = g := e
    subst e
    rw [hg] at h
    simp only [Option.some.injEq, Obj.cells.injEq] at h
    exact ht h.2.1.symm
theorem xor_bd (x : Int) (h : 0 ≤ x ∧ x ≤ 255) : 0 ≤ bits .xor .u8 x 1 ∧ bits .xor .u8 x 1 ≤ 255 := by
  obtain ⟨n, rfl⟩ : ∃ n : Nat, x = n := ⟨x.toNat, by omega⟩
  have hn : n < 256 := by omega
  clear h
  have key : ∀ m : Fin 256, 0 ≤ bits .xor .u8 (m.val : Int) 1 ∧ bits .xor .u8 (m.val : Int) 1 ≤ 255 := by decide +kernel
  exact key ⟨n, hn⟩
theorem neT1 : (26 : TypeId) ≠ 5 := by decide
theorem neT2 : (28 : TypeId) ≠ 5 := by decide
theorem neT3 : (32 : TypeId) ≠ 5 := by decide
theorem neT4 : (34 : TypeId) ≠ 5 := by decide
def tellD (l : Lo) (a : Aj) (hold : Int) : He := if tellE l a hold = 0 then tellH l a hold l.A l.c else he0
def heV (h : He) (A : Option Addr) (c : Nat) : He := ⟨h.s, h.nu, h.lv, h.ho, A, h.m, c, h.st, h.nm, h.th, h.tn⟩
theorem tell_u (l : Lo) (a : Aj) (hold : Int) (L : Nat → Sl) (A1 : Option Addr) (c1 : Nat) (L1 : Nat → Sl) (w : World) (hL : RdS w A1 l.m L1) (hs : ∀ j, j < l.m → sameS (L j) (L1 j)) (hm : l.m * 24 ≤ 140737488351232) :
    Calls Try.prog 16 #[.agg (loC ⟨l.s, l.nu, l.lv, A1, l.m, c1⟩), .agg (ajC a), .int .i64 hold] w fun e w' => ∃ A c L2, e = .returned (.tuple #[.agg (heC (heV (tellD l a hold) A c)), .int .i64 (tellE l a hold)]) ∧ OwnS w' w.heap.size (.slice A (tellD l a hold).m c) (tellD l a hold).m L2 ∧ (∀ j, j < (tellD l a hold).m → sameS (L2 j) (L j)) ∧ Below w.heap.size w w' := by
  refine (tell_any ⟨l.s, l.nu, l.lv, A1, l.m, c1⟩ a hold L1 w hL hm).mono ?_
  rintro e w' (⟨h1, h2, h3⟩ | ⟨h1, A, c, L2, h2, h3, h4, h5⟩)
  · have h1' : tellE l a hold ≠ 0 := h1
    have hd : tellD l a hold = he0 := if_neg h1'
    rw [hd]
    exact ⟨none, 0, L, h2, OwnS.nil _ _ _, fun j hj => absurd hj (Nat.not_lt_zero _), h3⟩
  · have h1' : tellE l a hold = 0 := h1
    have hd : tellD l a hold = tellH l a hold l.A l.c := if_pos h1'
    rw [hd, h1']
    exact ⟨A, c, L2, h2, h3, fun j hj => ((hs j hj).trans (h4 j hj)).symm, h5⟩
theorem docTell_u (l : Lo) (a : Aj) (hold : Int) (w : World) (hm : l.m * 24 ≤ 140737488351232) :
    Calls Try.prog 17 #[.agg (loC l), .agg (ajC a), .int .i64 hold] w fun e w' => e = .returned (.tuple #[.agg (heC (tellD l a hold)), .int .i64 (tellE l a hold)]) ∧ Below w.heap.size w w' := by
  refine (docTell_any l a hold w hm).mono ?_
  rintro e w' (⟨h1, h2, h3⟩ | ⟨h1, h2, h3⟩)
  · rw [show tellD l a hold = he0 from if_neg h1]; exact ⟨h2, h3⟩
  · rw [show tellD l a hold = tellH l a hold l.A l.c from if_pos h1, h1]; exact ⟨h2, h3⟩
theorem tellD_by (l : Lo) (a : Aj) (hold : Int) (hl : byB l.s) (hp : byB a.p) : byB (tellD l a hold).s ∧ byB (tellD l a hold).th := by
  unfold tellD
  split
  · refine ⟨hl, ?_⟩
    show byB (if thB a.st then a.p else z0)
    split
    · exact hp
    · exact by_z0
  · exact ⟨by_z0, by_z0⟩
theorem tellD_rd (l : Lo) (a : Aj) (hold : Int) (L : Nat → Sl) (w : World) (h : RdS w l.A l.m L) (hm : l.m * 24 ≤ 140737488351232) : RdS w (tellD l a hold).A (tellD l a hold).m L ∧ (tellD l a hold).m * 24 ≤ 140737488351232 := by
  unfold tellD
  split
  · exact ⟨h, hm⟩
  · exact ⟨.inl rfl, by show 0 * 24 ≤ _; omega⟩
theorem sameAreas_c (A B : Option Addr) (m c d : Nat) (L L' : Nat → Sl) (w : World) (ha : RdS w A m L) (hb : RdS w B m L') (he : ∀ j, j < m → sameS (L j) (L' j)) (hm : m ≤ 9223372036854775807) :
    Calls Try.prog 15 #[.slice A m c, .slice B m d] w fun e w' => e = .returned (.bool true) ∧ Below w.heap.size w w' :=
  (sameAreas_yes A B m c d L L' w ha hb he hm).mono fun e w' ⟨h1, r, h2⟩ => ⟨h1, by rw [h2]; exact bdrewN (Below.refl _ _) r⟩
set_option maxHeartbeats 60000000 in
set_option maxRecDepth 100000 in
theorem walkAdjTells (l : Lo) (L : Nat → Sl) (a : Aj) (hold now : Int) (w : World) (w0 : InLo w l L) (w1 : InAj a) (w2 : (Lit.int .i64 hold).wf = true) (w3 : (Lit.int .i64 now).wf = true) :
    Calls Try.prog 4 #[.agg (loC l), .agg (ajC a), .int .i64 hold, .int .i64 now] w fun e w' => e = .returned (.bool true) ∧ Below w.heap.size w w' := by
  obtain ⟨⟨hyl, _, _⟩, hrl, _, hml1, hml2⟩ := w0
  obtain ⟨_, hya, _⟩ := w1
  have HML : Hid (l.m * 24 ≤ 140737488351232) := Lib.hid (by omega)
  have HRL := Lib.hid hrl
  have hmm : l.m ≤ 9223372036854775807 := by omega
  obtain ⟨hdS, hdT⟩ := tellD_by l a hold hyl hya
  have HYS := Lib.hid hdS
  have HYT := Lib.hid hdT
  have HDR := Lib.hid (fun (w' : World) (hb : Below w.heap.size w w') => (tellD_rd l a hold L w' (hrl.below hb) HML.out).1)
  have hdm := (tellD_rd l a hold L w hrl HML.out).2
  have HTU := Lib.hid (fun A1 c1 L1 (w' : World) h1 h2 => tell_u l a hold L A1 c1 L1 w' h1 h2 HML.out)
  have HDU := Lib.hid (fun (w' : World) => docTell_u l a hold w' HML.out)
  obtain ⟨hd, hhd⟩ : ∃ x, tellD l a hold = x := ⟨_, rfl⟩
  obtain ⟨E, hE⟩ : ∃ x, tellE l a hold = x := ⟨_, rfl⟩
  rw [hhd] at HYS HYT HDR hdm HTU HDU
  rw [hE] at HTU HDU
  have hdm2 : hd.m ≤ 9223372036854775807 := by omega
  have HYA : Hid (byB (expR a now).p) := Lib.hid (expR_by hya)
  have HSR := Lib.hid (self_ajR (expR a now) HYA.out)
  have HE1 := Lib.hid (fun (w : World) => expire_any a now w)
  have HE2 := Lib.hid (fun (w : World) => rexpire_any a now w)
  obtain ⟨X, hX⟩ : ∃ x, expR a now = x := ⟨_, rfl⟩
  rw [hX] at HYA HSR HE1 HE2
  clear hrl hml1 hml2 hyl hya w2 w3 hdS hdT hhd hE hX
  go_enter Try.func4, Try.ntmps4
  have HB := Lib.hid (Below.refl w.heap.size w)
  obtain ⟨N1, hN1⟩ : ∃ N, w.heap.size = N := ⟨_, rfl⟩
  have HN1 := Lib.hid hN1
  clear hN1
  go_wp2_with (refine wpList_box (op := ⟨some 4, _, _, _, _, _⟩) rfl 26 (.tmp 0) rfl (loC l) rfl N1 HN1.out ?_; intro w1 k1 b1 s1; refine Hid.out ?_)
  refine Lib.hid ?_
  have K1 := Lib.hid k1
  clear k1
  have le_HB_N1 : w.heap.size ≤ N1 := by rw [← HN1.out]; exact HB.out.size
  have HBn := Lib.hid (HB.out.trans (b1.mono HB.out.size))
  clear HB
  have HB := HBn
  clear HBn
  clear b1 HN1
  obtain ⟨N2, hN2⟩ : ∃ N, w1.heap.size = N := ⟨_, rfl⟩
  have HN2 := Lib.hid hN2
  clear hN2
  go_wp2_with (refine wpList_box (op := ⟨some 5, _, _, _, _, _⟩) rfl 28 (.tmp 1) rfl (ajC a) rfl N2 HN2.out ?_; intro w2 k1 b1 s1; refine Hid.out ?_)
  refine Lib.hid ?_
  have K2 := Lib.hid k1
  clear k1
  have lt_N1_N2 : N1 < N2 := by rw [← HN2.out]; exact K1.out.lt
  have le_HB_N2 : w.heap.size ≤ N2 := by rw [← HN2.out]; exact HB.out.size
  have K1n := Lib.hid (K1.out.below b1 K1.out.lt)
  clear K1
  have K1 := K1n
  clear K1n
  have HBn := Lib.hid (HB.out.trans (b1.mono HB.out.size))
  clear HB
  have HB := HBn
  clear HBn
  clear b1 HN2
  go_wp2_with fail
  refine (awake_any _).mono ?_
  rintro e w3 ⟨rfl, b1⟩
  have K1n := Lib.hid (K1.out.below b1 K1.out.lt)
  clear K1
  have K1 := K1n
  clear K1n
  have K2n := Lib.hid (K2.out.below b1 K2.out.lt)
  clear K2
  have K2 := K2n
  clear K2n
  have HBn := Lib.hid (HB.out.trans (b1.mono HB.out.size))
  clear HB
  have HB := HBn
  clear HBn
  clear b1
  go_wp2_with (refine wpList_ld (op := ⟨some 19, _, _, _, _, _⟩) (by rfl) 26 (.tmp 4) rfl N1 0 rfl (loC l) _ K1.out.all Try.underlying26 rfl info_loR ?_; refine Hid.out ?_)
  refine Lib.hid ?_
  go_wp2_with fail
  refine (local_any l L w3 (HRL.out.below HB.out) HML.out).mono ?_
  rintro e w4 ⟨A1, c1, L1, rfl, hr1, _, _, _, _, hs1, b1⟩
  have K1n := Lib.hid (K1.out.below b1 K1.out.lt)
  clear K1
  have K1 := K1n
  clear K1n
  have K2n := Lib.hid (K2.out.below b1 K2.out.lt)
  clear K2
  have K2 := K2n
  clear K2n
  have HBn := Lib.hid (HB.out.trans (b1.mono HB.out.size))
  clear HB
  have HB := HBn
  clear HBn
  have HXL := Lib.hid hr1
  have HSL := Lib.hid hs1
  clear hr1 hs1 b1
  have HBx := Lib.hid (Below.refl w4.heap.size w4)
  obtain ⟨N5, hN5⟩ : ∃ N, w4.heap.size = N := ⟨_, rfl⟩
  have HN5 := Lib.hid hN5
  clear hN5
  go_wp2_with (refine wpList_new (op := ⟨some 9, _, _, _, _, _⟩) rfl 32 rfl (loC lo0) zero_loP N5 HN5.out ?_; intro w5 k1 b1 s1; refine Hid.out ?_)
  refine Lib.hid ?_
  have K7 := Lib.hid k1
  clear k1
  have lt_N1_N5 : N1 < N5 := by rw [← HN5.out]; exact K1.out.lt
  have lt_N2_N5 : N2 < N5 := by rw [← HN5.out]; exact K2.out.lt
  have le_HB_N5 : w.heap.size ≤ N5 := by rw [← HN5.out]; exact HB.out.size
  have le_HBx_N5 : w4.heap.size ≤ N5 := by rw [← HN5.out]; exact HBx.out.size
  have K1n := Lib.hid (K1.out.below b1 K1.out.lt)
  clear K1
  have K1 := K1n
  clear K1n
  have K2n := Lib.hid (K2.out.below b1 K2.out.lt)
  clear K2
  have K2 := K2n
  clear K2n
  have HBn := Lib.hid (HB.out.trans (b1.mono HB.out.size))
  clear HB
  have HB := HBn
  clear HBn
  have HBxn := Lib.hid (HBx.out.trans (b1.mono HBx.out.size))
  clear HBx
  have HBx := HBxn
  clear HBxn
  clear b1 HN5
  go_wp2_with (refine wpList_st rfl 32 (.tmp 9) (.tmp 20) rfl N5 0 rfl (.agg (loC ⟨l.s, l.nu, l.lv, A1, l.m, c1⟩)) (loC ⟨l.s, l.nu, l.lv, A1, l.m, c1⟩) rfl rfl info_loP (loC_one _) K7.out (Nat.le_of_ble_eq_true rfl) (C' := loC ⟨l.s, l.nu, l.lv, A1, l.m, c1⟩) (by kernel_rfl) ?_; intro w6 q1; refine Hid.out ?_)
  refine Lib.hid ?_
  have K1n := Lib.hid (K1.out.far q1 (by omega))
  clear K1
  have K1 := K1n
  clear K1n
  have K2n := Lib.hid (K2.out.far q1 (by omega))
  clear K2
  have K2 := K2n
  clear K2n
  have HBn := Lib.hid (HB.out.trans (q1.2.1 _ (by omega)))
  clear HB
  have HB := HBn
  clear HBn
  have HBxn := Lib.hid (HBx.out.trans (q1.2.1 _ (by omega)))
  clear HBx
  have HBx := HBxn
  clear HBxn
  have K7n : Hid (Blk 32 w6 N5 (loC ⟨l.s, l.nu, l.lv, A1, l.m, c1⟩)) := Lib.hid q1.1
  clear K7
  have K7 := K7n
  clear K7n q1
  go_wp2_with (refine wpList_ld (op := ⟨some 22, _, _, _, _, _⟩) (by rfl) 32 (.tmp 9) rfl N5 0 rfl (loC ⟨l.s, l.nu, l.lv, A1, l.m, c1⟩) _ K7.out.all Try.underlying32 rfl info_loP ?_; refine Hid.out ?_)
  refine Lib.hid ?_
  go_wp2_with (refine wpList_ld (op := ⟨some 23, _, _, _, _, _⟩) (by rfl) 28 (.tmp 5) rfl N2 0 rfl (ajC a) _ K2.out.all Try.underlying28 rfl info_ajR ?_; refine Hid.out ?_)
  refine Lib.hid ?_
  have hBT : w.heap.size ≤ w6.heap.size := HB.out.size
  have hLT : w4.heap.size ≤ w6.heap.size := HBx.out.size
  go_wp2_with fail
  refine (HTU.out A1 c1 L1 w6 (HXL.out.below HBx.out) HSL.out).mono ?_
  rintro e w7 ⟨A2, c2, L2, rfl, ho2, hs2, b1⟩
  have K1n := Lib.hid (K1.out.below b1 K1.out.lt)
  clear K1
  have K1 := K1n
  clear K1n
  have K2n := Lib.hid (K2.out.below b1 K2.out.lt)
  clear K2
  have K2 := K2n
  clear K2n
  have K7n := Lib.hid (K7.out.below b1 K7.out.lt)
  clear K7
  have K7 := K7n
  clear K7n
  have HBn := Lib.hid (HB.out.trans (b1.mono HB.out.size))
  clear HB
  have HB := HBn
  clear HBn
  have HBxn := Lib.hid (HBx.out.trans (b1.mono HBx.out.size))
  clear HBx
  have HBx := HBxn
  clear HBxn
  have HOL := Lib.hid ho2
  have HSM := Lib.hid hs2
  clear ho2 hs2 b1
  obtain ⟨N8, hN8⟩ : ∃ N, w7.heap.size = N := ⟨_, rfl⟩
  have HN8 := Lib.hid hN8
  clear hN8
  go_wp2_with (refine wpList_new (op := ⟨some 10, _, _, _, _, _⟩) rfl 34 rfl (heC he0) zero_heP N8 HN8.out ?_; intro w8 k1 b1 s1; refine Hid.out ?_)
  refine Lib.hid ?_
  have K8 := Lib.hid k1
  clear k1
  have lt_N1_N8 : N1 < N8 := by rw [← HN8.out]; exact K1.out.lt
  have lt_N2_N8 : N2 < N8 := by rw [← HN8.out]; exact K2.out.lt
  have lt_N5_N8 : N5 < N8 := by rw [← HN8.out]; exact K7.out.lt
  have le_HB_N8 : w.heap.size ≤ N8 := by rw [← HN8.out]; exact HB.out.size
  have le_HBx_N8 : w4.heap.size ≤ N8 := by rw [← HN8.out]; exact HBx.out.size
  have K1n := Lib.hid (K1.out.below b1 K1.out.lt)
  clear K1
  have K1 := K1n
  clear K1n
  have K2n := Lib.hid (K2.out.below b1 K2.out.lt)
  clear K2
  have K2 := K2n
  clear K2n
  have K7n := Lib.hid (K7.out.below b1 K7.out.lt)
  clear K7
  have K7 := K7n
  clear K7n
  have HOLn := Lib.hid (HOL.out.below b1)
  clear HOL
  have HOL := HOLn
  clear HOLn
  have HBn := Lib.hid (HB.out.trans (b1.mono HB.out.size))
  clear HB
  have HB := HBn
  clear HBn
  have HBxn := Lib.hid (HBx.out.trans (b1.mono HBx.out.size))
  clear HBx
  have HBx := HBxn
  clear HBxn
  clear b1 HN8
  go_wp2_with (refine wpList_st rfl 34 (.tmp 10) (.tmp 26) rfl N8 0 rfl (.agg (heC (heV hd A2 c2))) (heC (heV hd A2 c2)) rfl rfl info_heP (heC_one _) K8.out (Nat.le_of_ble_eq_true rfl) (C' := heC (heV hd A2 c2)) (by kernel_rfl) ?_; intro w9 q1; refine Hid.out ?_)
  refine Lib.hid ?_
  have HOLn := Lib.hid (HOL.out.farT K8.out neL1 neL2 q1)
  clear HOL
  have HOL := HOLn
  clear HOLn
  have K1n := Lib.hid (K1.out.far q1 (by omega))
  clear K1
  have K1 := K1n
  clear K1n
  have K2n := Lib.hid (K2.out.far q1 (by omega))
  clear K2
  have K2 := K2n
  clear K2n
  have K7n := Lib.hid (K7.out.far q1 (by omega))
  clear K7
  have K7 := K7n
  clear K7n
  have HBn := Lib.hid (HB.out.trans (q1.2.1 _ (by omega)))
  clear HB
  have HB := HBn
  clear HBn
  have HBxn := Lib.hid (HBx.out.trans (q1.2.1 _ (by omega)))
  clear HBx
  have HBx := HBxn
  clear HBxn
  have K8n : Hid (Blk 34 w9 N8 (heC (heV hd A2 c2))) := Lib.hid q1.1
  clear K8
  have K8 := K8n
  clear K8n q1
  go_wp2_with (refine wpList_ld (op := ⟨some 29, _, _, _, _, _⟩) (by rfl) 26 (.tmp 4) rfl N1 0 rfl (loC l) _ K1.out.all Try.underlying26 rfl info_loR ?_; refine Hid.out ?_)
  refine Lib.hid ?_
  go_wp2_with (refine wpList_ld (op := ⟨some 30, _, _, _, _, _⟩) (by rfl) 28 (.tmp 5) rfl N2 0 rfl (ajC a) _ K2.out.all Try.underlying28 rfl info_ajR ?_; refine Hid.out ?_)
  refine Lib.hid ?_
  go_wp2_with fail
  refine (HDU.out _).mono ?_
  rintro e w10 ⟨rfl, b1⟩
  have K1n := Lib.hid (K1.out.below b1 K1.out.lt)
  clear K1
  have K1 := K1n
  clear K1n
  have K2n := Lib.hid (K2.out.below b1 K2.out.lt)
  clear K2
  have K2 := K2n
  clear K2n
  have K7n := Lib.hid (K7.out.below b1 K7.out.lt)
  clear K7
  have K7 := K7n
  clear K7n
  have K8n := Lib.hid (K8.out.below b1 K8.out.lt)
  clear K8
  have K8 := K8n
  clear K8n
  have HOLn := Lib.hid (HOL.out.below b1)
  clear HOL
  have HOL := HOLn
  clear HOLn
  have HBn := Lib.hid (HB.out.trans (b1.mono HB.out.size))
  clear HB
  have HB := HBn
  clear HBn
  have HBxn := Lib.hid (HBx.out.trans (b1.mono HBx.out.size))
  clear HBx
  have HBx := HBxn
  clear HBxn
  clear b1
  obtain ⟨N11, hN11⟩ : ∃ N, w10.heap.size = N := ⟨_, rfl⟩
  have HN11 := Lib.hid hN11
  clear hN11
  go_wp2_with (refine wpList_new (op := ⟨some 12, _, _, _, _, _⟩) rfl 30 rfl (heC he0) zero_heR N11 HN11.out ?_; intro w11 k1 b1 s1; refine Hid.out ?_)
  refine Lib.hid ?_
  have K12 := Lib.hid k1
  clear k1
  have lt_N1_N11 : N1 < N11 := by rw [← HN11.out]; exact K1.out.lt
  have lt_N2_N11 : N2 < N11 := by rw [← HN11.out]; exact K2.out.lt
  have lt_N5_N11 : N5 < N11 := by rw [← HN11.out]; exact K7.out.lt
  have lt_N8_N11 : N8 < N11 := by rw [← HN11.out]; exact K8.out.lt
  have le_HB_N11 : w.heap.size ≤ N11 := by rw [← HN11.out]; exact HB.out.size
  have le_HBx_N11 : w4.heap.size ≤ N11 := by rw [← HN11.out]; exact HBx.out.size
  have K1n := Lib.hid (K1.out.below b1 K1.out.lt)
  clear K1
  have K1 := K1n
  clear K1n
  have K2n := Lib.hid (K2.out.below b1 K2.out.lt)
  clear K2
  have K2 := K2n
  clear K2n
  have K7n := Lib.hid (K7.out.below b1 K7.out.lt)
  clear K7
  have K7 := K7n
  clear K7n
  have K8n := Lib.hid (K8.out.below b1 K8.out.lt)
  clear K8
  have K8 := K8n
  clear K8n
  have HOLn := Lib.hid (HOL.out.below b1)
  clear HOL
  have HOL := HOLn
  clear HOLn
  have HBn := Lib.hid (HB.out.trans (b1.mono HB.out.size))
  clear HB
  have HB := HBn
  clear HBn
  have HBxn := Lib.hid (HBx.out.trans (b1.mono HBx.out.size))
  clear HBx
  have HBx := HBxn
  clear HBxn
  clear b1 HN11
  have neR1 : (30 : TypeId) ≠ 49 := by decide
  have neR2 : (30 : TypeId) ≠ 5 := by decide
  have NR1 := Lib.hid neR1
  have NR2 := Lib.hid neR2
  clear neR1 neR2
  go_wp2_with (refine wpList_st rfl 30 (.tmp 12) (.tmp 33) rfl N11 0 rfl (.agg (heC hd)) (heC hd) rfl rfl info_heR (heC_one _) K12.out (Nat.le_of_ble_eq_true rfl) (C' := heC hd) (by kernel_rfl) ?_; intro w12 q1; refine Hid.out ?_)
  refine Lib.hid ?_
  have HOLn := Lib.hid (HOL.out.farT K12.out NR1.out NR2.out q1)
  clear HOL
  have HOL := HOLn
  clear HOLn
  have K1n := Lib.hid (K1.out.far q1 (by omega))
  clear K1
  have K1 := K1n
  clear K1n
  have K2n := Lib.hid (K2.out.far q1 (by omega))
  clear K2
  have K2 := K2n
  clear K2n
  have K7n := Lib.hid (K7.out.far q1 (by omega))
  clear K7
  have K7 := K7n
  clear K7n
  have K8n := Lib.hid (K8.out.far q1 (by omega))
  clear K8
  have K8 := K8n
  clear K8n
  have HBn := Lib.hid (HB.out.trans (q1.2.1 _ (by omega)))
  clear HB
  have HB := HBn
  clear HBn
  have HBxn := Lib.hid (HBx.out.trans (q1.2.1 _ (by omega)))
  clear HBx
  have HBx := HBxn
  clear HBxn
  have K12n : Hid (Blk 30 w12 N11 (heC hd)) := Lib.hid q1.1
  clear K12
  have K12 := K12n
  clear K12n q1
  go_wp2_with (refine wpList_ld (op := ⟨some 35, _, _, _, _, _⟩) (by rfl) 34 (.tmp 10) rfl N8 0 rfl (heC (heV hd A2 c2)) _ K8.out.all Try.underlying34 rfl info_heP ?_; refine Hid.out ?_)
  refine Lib.hid ?_
  go_wp2_with (refine wpList_ld (op := ⟨some 36, _, _, _, _, _⟩) (by rfl) 30 (.tmp 12) rfl N11 0 rfl (heC hd) _ K12.out.all Try.underlying30 rfl info_heR ?_; refine Hid.out ?_)
  refine Lib.hid ?_
  go_wp2_with fail
  refine (sameH_yes hd A2 hd.A c2 hd.c L2 L w12 HYS.out HYT.out (own_rd HOL.out) (HDR.out _ HB.out) HSM.out hdm2).mono ?_
  rintro e w13 ⟨rfl, b1⟩
  have K1n := Lib.hid (K1.out.below b1 K1.out.lt)
  clear K1
  have K1 := K1n
  clear K1n
  have K2n := Lib.hid (K2.out.below b1 K2.out.lt)
  clear K2
  have K2 := K2n
  clear K2n
  have K7n := Lib.hid (K7.out.below b1 K7.out.lt)
  clear K7
  have K7 := K7n
  clear K7n
  have K8n := Lib.hid (K8.out.below b1 K8.out.lt)
  clear K8
  have K8 := K8n
  clear K8n
  have K12n := Lib.hid (K12.out.below b1 K12.out.lt)
  clear K12
  have K12 := K12n
  clear K12n
  have HOLn := Lib.hid (HOL.out.below b1)
  clear HOL
  have HOL := HOLn
  clear HOLn
  have HBn := Lib.hid (HB.out.trans (b1.mono HB.out.size))
  clear HB
  have HB := HBn
  clear HBn
  have HBxn := Lib.hid (HBx.out.trans (b1.mono HBx.out.size))
  clear HBx
  have HBx := HBxn
  clear HBxn
  clear b1 HSM
  have c8 : w13.cell? ⟨N8, 9, none⟩ = some (.slice A2 hd.m c2) := (K8.out.cell 9).trans rfl
  go_wp2_with fail
  clear c8
  obtain ⟨m, hmd⟩ : ∃ n, hd.m = n := ⟨_, rfl⟩
  have HMD := Lib.hid hmd
  rw [hmd] at HOL hdm2 ⊢
  clear hmd
  go_loopw [46] (fun t wr => ∃ (i : Nat) (M : Nat → Sl), i ≤ m ∧ t = .int .i64 i ∧ Hid (OwnS wr w6.heap.size (.slice A2 m c2) m M) ∧ Hid (Blk 26 wr N1 (loC l)) ∧ Hid (Blk 28 wr N2 (ajC a)) ∧ Hid (Blk 32 wr N5 (loC ⟨l.s, l.nu, l.lv, A1, l.m, c1⟩)) ∧ Hid (Blk 34 wr N8 (heC (heV hd A2 c2))) ∧ Hid (Below w.heap.size w wr) ∧ Hid (Below w4.heap.size w4 wr)) (fun t _ => m - (intOf t).toNat)
  case atStart => exact ⟨0, L2, by omega, rfl, HOL, K1, K2, K7, K8, HB, HBx⟩
  case round =>
    obtain ⟨wo, rfl⟩ : ∃ wo, wo = wr := ⟨_, rfl⟩
    clear HOL K1 K2 K7 K8 HB HBx K12
    obtain ⟨i, M, hi, rfl, HOL, K1, K2, K7, K8, HB, HBx⟩ := hrel
    by_cases hlt : i < m
    · obtain ⟨b0, off, hA, hr⟩ := (own_rd HOL.out).row (by omega)
      obtain ⟨c0, o0⟩ := hr.2 i hlt
      have hn0 := o0.2.2
      have HAA := Lib.hid hA
      have c8 : wo.cell? ⟨N8, 9, none⟩ = some (.slice (some ⟨b0, off, none⟩) m c2) := by rw [← HMD.out, ← HAA.out]; exact (K8.out.cell 9).trans rfl
      obtain ⟨An, hAn⟩ : ∃ x, (M i).A = x := ⟨_, rfl⟩
      obtain ⟨nn, hnn⟩ : ∃ x, (M i).n = x := ⟨_, rfl⟩
      obtain ⟨cn, hcn⟩ : ∃ x, (M i).c = x := ⟨_, rfl⟩
      have HN := Lib.hid (And.intro hAn (And.intro hnn hcn))
      rw [hAn, hnn, hcn] at c0
      rw [hnn] at hn0
      clear hr o0 hA hAn hnn hcn
      go_wp2_with fail
      clear c0 c8
      go_loopw [55] (fun t wr => ∃ (j : Nat) (M : Nat → Sl), j ≤ nn ∧ t = .int .i64 j ∧ Hid (OwnS wr w6.heap.size (.slice A2 m c2) m M) ∧ Hid ((M i).A = An ∧ (M i).n = nn ∧ (M i).c = cn) ∧ Hid (Blk 26 wr N1 (loC l)) ∧ Hid (Blk 28 wr N2 (ajC a)) ∧ Hid (Blk 32 wr N5 (loC ⟨l.s, l.nu, l.lv, A1, l.m, c1⟩)) ∧ Hid (Blk 34 wr N8 (heC (heV hd A2 c2))) ∧ Hid (Below w.heap.size w wr) ∧ Hid (Below w4.heap.size w4 wr)) (fun t _ => nn - (intOf t).toNat)
      case atStart => exact ⟨0, M, by omega, rfl, HOL, HN, K1, K2, K7, K8, HB, HBx⟩
      case round =>
        clear HOL HN K1 K2 K7 K8 HB HBx
        obtain ⟨j, M, hj, rfl, HOL, HN, K1, K2, K7, K8, HB, HBx⟩ := hrel
        by_cases hlj : j < nn
        · obtain ⟨b1, off1, hA, hr⟩ := (own_rd HOL.out).row (by omega)
          obtain ⟨c0, o0⟩ := hr.2 i hlt
          have HAA2 := Lib.hid hA
          have c8 : wr.cell? ⟨N8, 9, none⟩ = some (.slice (some ⟨b1, off1, none⟩) m c2) := by rw [← HMD.out, ← HAA2.out]; exact (K8.out.cell 9).trans rfl
          obtain ⟨hAn, hnn, hcn⟩ := HN.out
          rw [hAn, hnn, hcn] at c0
          have hv := HOL.out.2 i hlt
          obtain ⟨_, hv | ⟨g, hg1, hg2, hg3⟩⟩ := hv
          · omega
          rw [hg1] at hAn
          subst hAn
          have cb := own_at hg3 j (by omega)
          have hfr := hg3.free j
          have hx := hg3.2 j
          have hcap := hg3.caps
          obtain ⟨⟨cur, hcur, _⟩, _⟩ := hg3
          obtain ⟨x, hxx⟩ : ∃ x, (M i).z j = x := ⟨_, rfl⟩
          rw [hxx] at cb hx
          obtain ⟨M2, hM2, ho2⟩ := HOL.out.poke (k := j) hcur (xor_bd x hx)
          have HOL2 := Lib.hid ho2
          have HN2 : Hid ((M2 i).A = some ⟨g, 0, none⟩ ∧ (M2 i).n = nn ∧ (M2 i).c = cn) := Lib.hid (by obtain ⟨e1, e2, e3⟩ := hM2 i; exact ⟨e1.trans hg1, e2.trans hnn, e3.trans hcn⟩)
          have K12 := Lib.hid (K1.out.poke (k := j) (v := .int .u8 (bits .xor .u8 x 1)) hcur neT1); have K22 := Lib.hid (K2.out.poke (k := j) (v := .int .u8 (bits .xor .u8 x 1)) hcur neT2); have K72 := Lib.hid (K7.out.poke (k := j) (v := .int .u8 (bits .xor .u8 x 1)) hcur neT3); have K82 := Lib.hid (K8.out.poke (k := j) (v := .int .u8 (bits .xor .u8 x 1)) hcur neT4)
          have HB2 := Lib.hid (HB.out.setCell (p := ⟨g, j, none⟩) (by show w.heap.size ≤ g; omega) (.int .u8 (bits .xor .u8 x 1)))
          have HBx2 := Lib.hid (HBx.out.setCell (p := ⟨g, j, none⟩) (by show w4.heap.size ≤ g; omega) (.int .u8 (bits .xor .u8 x 1)))
          have hcn2 : nn ≤ cn := by omega
          clear hr o0 hA hnn hcn hM2 ho2 hcur hxx hg1
          go_wp2_with fail
          go_roundw
          case rel => exact ⟨j + 1, M2, by omega, by go_num, HOL2, HN2, K12, K22, K72, K82, HB2, HBx2⟩
          case measure => simp [intOf]; omega
        · obtain rfl : j = nn := by omega
          go_wp2_with fail
          go_roundw
          case rel => exact ⟨i + 1, M, by omega, by go_num, HOL, K1, K2, K7, K8, HB, HBx⟩
          case measure => simp [intOf]; omega
    · obtain rfl : i = m := by omega
      go_wp2_with fail
      clear HOL
      refine wp_region_held_drew (S := fun w' => Blk 26 w' N1 (loC l) ∧ Blk 28 w' N2 (ajC a) ∧ Blk 32 w' N5 (loC ⟨l.s, l.nu, l.lv, A1, l.m, c1⟩) ∧ Blk 34 w' N8 (heC (heV hd A2 c2)) ∧ Below w.heap.size w w' ∧ Below w4.heap.size w4 w') (by kernel_rfl) ⟨K1.out, K2.out, K7.out, K8.out, HB.out.drew, HBx.out.drew⟩ (fun hS => ?_)
      generalize hW14 : wo.drew = W14 at hS ⊢
      clear hW14
      clear K1
      clear K2
      clear K7
      clear K8
      clear HB
      clear HBx
      have K1 := Lib.hid hS.1
      have K2 := Lib.hid hS.2.1
      have K7 := Lib.hid hS.2.2.1
      have K8 := Lib.hid hS.2.2.2.1
      have HB := Lib.hid hS.2.2.2.2.1
      have HBx := Lib.hid hS.2.2.2.2.2
      refine takeY (i := 0) (some 70) (v := .bool true) rfl rfl (by kernel_rfl) (by kernel_rfl) (by kernel_rfl) (fun _ _ _ h => h) (by rfl) (fun w' hS => by go_simp) hS ?_
      simp only [Act.put, List.setIfInBounds_toArray, List.set_cons_zero, List.set_cons_succ]
      refine takeY (i := 1) (some 71) (v := .bool true) rfl rfl (by kernel_rfl) (by kernel_rfl) (by kernel_rfl) (fun _ _ _ h => h) (by rfl) (fun w' hS => by go_simp) hS ?_
      simp only [Act.put, List.setIfInBounds_toArray, List.set_cons_zero, List.set_cons_succ]
      refine takeY (i := 2) (some 72) (v := .pointer (some ⟨N5, 8, none⟩)) rfl rfl (by kernel_rfl) (by kernel_rfl) (by kernel_rfl) (fun _ _ _ h => h) (by rfl) (fun w' hS => by go_simp) hS ?_
      simp only [Act.put, List.setIfInBounds_toArray, List.set_cons_zero, List.set_cons_succ]
      refine takeY (i := 3) (some 73) (v := .slice A1 l.m c1) rfl rfl (by kernel_rfl) (by kernel_rfl) (by kernel_rfl) (fun _ _ _ h => h) (by rfl) (fun w' hS => by (have c9 : w'.cell? ⟨N5, 8, none⟩ = some (.slice A1 l.m c1) := (hS.2.2.1.cell 8).trans rfl; clear hS; go_simp)) hS ?_
      simp only [Act.put, List.setIfInBounds_toArray, List.set_cons_zero, List.set_cons_succ]
      refine takeY (i := 4) (some 74) (v := .pointer (some ⟨N1, 8, none⟩)) rfl rfl (by kernel_rfl) (by kernel_rfl) (by kernel_rfl) (fun _ _ _ h => h) (by rfl) (fun w' hS => by go_simp) hS ?_
      simp only [Act.put, List.setIfInBounds_toArray, List.set_cons_zero, List.set_cons_succ]
      refine takeY (i := 5) (some 75) (v := .slice l.A l.m l.c) rfl rfl (by kernel_rfl) (by kernel_rfl) (by kernel_rfl) (fun _ _ _ h => h) (by rfl) (fun w' hS => by (have c9 : w'.cell? ⟨N1, 8, none⟩ = some (.slice l.A l.m l.c) := (hS.1.cell 8).trans rfl; clear hS; go_simp)) hS ?_
      simp only [Act.put, List.setIfInBounds_toArray, List.set_cons_zero, List.set_cons_succ]
      have HSA := Lib.hid (sameAreas_c A1 l.A l.m c1 l.c L1 L W14 (HXL.out.below HBx.out) (HRL.out.below HB.out) (fun j hj => (HSL.out j hj).symm) hmm)
      refine takeC (i := 6) (some 76) 15 #[.slice A1 l.m c1, .slice l.A l.m l.c] (.bool true) (R := fun w' => Below W14.heap.size W14 w') rfl rfl (by kernel_rfl) (by rfl) (by go_simp) (HSA.out) (fun w' hb => ⟨hS.1.below hb hS.1.lt, hS.2.1.below hb hS.2.1.lt, hS.2.2.1.below hb hS.2.2.1.lt, hS.2.2.2.1.below hb hS.2.2.2.1.lt, hS.2.2.2.2.1.trans (hb.mono hS.2.2.2.2.1.size), hS.2.2.2.2.2.trans (hb.mono hS.2.2.2.2.2.size)⟩) (fun W15 hb1 hS2 => ?_)
      simp only [Act.put, List.setIfInBounds_toArray, List.set_cons_zero, List.set_cons_succ]
      clear K1
      clear K2
      clear K7
      clear K8
      clear HB
      clear HBx
      clear hS hb1
      have hS := hS2
      clear hS2
      have K1 := Lib.hid hS.1
      have K2 := Lib.hid hS.2.1
      have K7 := Lib.hid hS.2.2.1
      have K8 := Lib.hid hS.2.2.2.1
      have HB := Lib.hid hS.2.2.2.2.1
      have HBx := Lib.hid hS.2.2.2.2.2
      refine takeY (i := 7) (some 77) (v := .bool true) rfl rfl (by kernel_rfl) (by kernel_rfl) (by kernel_rfl) (fun _ _ _ h => h) (by rfl) (fun w' hS => by go_simp) hS ?_
      simp only [Act.put, List.setIfInBounds_toArray, List.set_cons_zero, List.set_cons_succ]
      refine takeY (i := 8) (some 78) (v := .bool true) rfl rfl (by kernel_rfl) (by kernel_rfl) (by kernel_rfl) (fun _ _ _ h => h) (by rfl) (fun w' hS => by go_simp) hS ?_
      simp only [Act.put, List.setIfInBounds_toArray, List.set_cons_zero, List.set_cons_succ]
      refine takeL (i := 9) (some 79) 28 (.tmp 5) N2 0 (ajC a) _ rfl rfl (by kernel_rfl) (by kernel_rfl) (by kernel_rfl) (fun _ _ _ h => h) (by rfl) rfl rfl (fun w' hS => hS.2.1.all) Try.underlying28 rfl info_ajR hS ?_
      simp only [Act.put, List.setIfInBounds_toArray, List.set_cons_zero, List.set_cons_succ]
      refine takeY (i := 10) (some 80) (v := .int .i64 now) rfl rfl (by kernel_rfl) (by kernel_rfl) (by kernel_rfl) (fun _ _ _ h => h) (by rfl) (fun w' hS => by go_simp) hS ?_
      simp only [Act.put, List.setIfInBounds_toArray, List.set_cons_zero, List.set_cons_succ]
      refine takeL (i := 12) (some 82) 28 (.tmp 5) N2 0 (ajC a) _ rfl rfl (by kernel_rfl) (by kernel_rfl) (by kernel_rfl) (fun _ _ _ h => h) (by rfl) rfl rfl (fun w' hS => hS.2.1.all) Try.underlying28 rfl info_ajR hS ?_
      simp only [Act.put, List.setIfInBounds_toArray, List.set_cons_zero, List.set_cons_succ]
      refine takeY (i := 13) (some 83) (v := .int .i64 now) rfl rfl (by kernel_rfl) (by kernel_rfl) (by kernel_rfl) (fun _ _ _ h => h) (by rfl) (fun w' hS => by go_simp) hS ?_
      simp only [Act.put, List.setIfInBounds_toArray, List.set_cons_zero, List.set_cons_succ]
      refine takeC (i := 11) (some 81) 19 #[.agg (ajC a), .int .i64 now] (.agg (ajC X)) (R := fun w' => Below W15.heap.size W15 w') rfl rfl (by kernel_rfl) (by rfl) (by go_simp) (HE1.out _) (fun w' hb => ⟨hS.1.below hb hS.1.lt, hS.2.1.below hb hS.2.1.lt, hS.2.2.1.below hb hS.2.2.1.lt, hS.2.2.2.1.below hb hS.2.2.2.1.lt, hS.2.2.2.2.1.trans (hb.mono hS.2.2.2.2.1.size), hS.2.2.2.2.2.trans (hb.mono hS.2.2.2.2.2.size)⟩) (fun W16 hb1 hS2 => ?_)
      simp only [Act.put, List.setIfInBounds_toArray, List.set_cons_zero, List.set_cons_succ]
      clear K1
      clear K2
      clear K7
      clear K8
      clear HB
      clear HBx
      clear hS hb1
      have hS := hS2
      clear hS2
      have K1 := Lib.hid hS.1
      have K2 := Lib.hid hS.2.1
      have K7 := Lib.hid hS.2.2.1
      have K8 := Lib.hid hS.2.2.2.1
      have HB := Lib.hid hS.2.2.2.2.1
      have HBx := Lib.hid hS.2.2.2.2.2
      refine takeC (i := 14) (some 84) 20 #[.agg (ajC a), .int .i64 now] (.agg (ajC X)) (R := fun w' => Below W16.heap.size W16 w') rfl rfl (by kernel_rfl) (by rfl) (by go_simp) (HE2.out _) (fun w' hb => ⟨hS.1.below hb hS.1.lt, hS.2.1.below hb hS.2.1.lt, hS.2.2.1.below hb hS.2.2.1.lt, hS.2.2.2.1.below hb hS.2.2.2.1.lt, hS.2.2.2.2.1.trans (hb.mono hS.2.2.2.2.1.size), hS.2.2.2.2.2.trans (hb.mono hS.2.2.2.2.2.size)⟩) (fun W17 hb1 hS2 => ?_)
      simp only [Act.put, List.setIfInBounds_toArray, List.set_cons_zero, List.set_cons_succ]
      clear K1
      clear K2
      clear K7
      clear K8
      clear HB
      clear HBx
      clear hS hb1
      have hS := hS2
      clear hS2
      have K1 := Lib.hid hS.1
      have K2 := Lib.hid hS.2.1
      have K7 := Lib.hid hS.2.2.1
      have K8 := Lib.hid hS.2.2.2.1
      have HB := Lib.hid hS.2.2.2.2.1
      have HBx := Lib.hid hS.2.2.2.2.2
      refine takeY (i := 15) (some 85) (v := .bool true) rfl rfl (by kernel_rfl) (by kernel_rfl) (by kernel_rfl) (fun _ _ _ h => h) (by rfl) (fun w' hS => by (exact eql_self _ _ _ _ _ _ rfl rfl guard_ajR _ HSR.out rfl rfl _)) hS ?_
      simp only [Act.put, List.setIfInBounds_toArray, List.set_cons_zero, List.set_cons_succ]
      refine takeY (i := 16) (some 86) (v := .bool true) rfl rfl (by kernel_rfl) (by kernel_rfl) (by kernel_rfl) (fun _ _ _ h => h) (by rfl) (fun w' hS => by go_simp) hS ?_
      simp only [Act.put, List.setIfInBounds_toArray, List.set_cons_zero, List.set_cons_succ]
      refine takeY (i := 17) (some 8) (v := .bool true) rfl rfl (by kernel_rfl) (by kernel_rfl) (by kernel_rfl) (fun _ _ _ h => h) (by rfl) (fun w' hS => by go_simp) hS ?_
      simp only [Act.put, List.setIfInBounds_toArray, List.set_cons_zero, List.set_cons_succ]
      clear hS
      refine wpAnyH_done (by kernel_rfl) ?_ _
      go_wp2_with fail
      go_ret
      exact ⟨rfl, HB.out⟩
end Go.Proofs.Ytcngkfmjngeofaa
