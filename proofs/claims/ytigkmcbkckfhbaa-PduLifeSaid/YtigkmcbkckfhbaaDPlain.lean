/- The document's Plain: a packet with the fields alone that its kind has. Each theorem states its conditions. -/
import Derived.Test.YtigkmcbkckfhbaaDSt
namespace Go.Proofs.Ytigkmcbkckfhbaa
open Go.RowKit
set_option linter.unusedVariables false

theorem alloc_R' (o : Oper) (e : Operand → Value) (ho : o.op = .alloc 31) (W W' : World) (n : Nat) (hn : W.heap.size = n) (hW : W.alloc (.cells (pdC pd0) 31) = W') : (execOp e o).run Try.prog W = .ok (.value (.pointer (some ⟨n, 0, none⟩))) W' := by
  subst hn hW
  exact alloc_R o e ho W
theorem hello_yes (k : Int) (h : k = 15 ∨ k = 16 ∨ k = 17) (w : World) : Calls Try.prog 28 #[.int .u8 k] w fun e w' => e = .returned (.bool true) ∧ w = w' := by
  rcases h with rfl | rfl | rfl <;>
  · go_enter Try.func28, Try.ntmps28
    go_wp2
    go_ret
    exact ⟨rfl, rfl⟩
theorem hello_no (k : Int) (h : ¬ (k = 15 ∨ k = 16 ∨ k = 17)) (w : World) : Calls Try.prog 28 #[.int .u8 k] w fun e w' => e = .returned (.bool false) ∧ w = w' := by
  have h1 : (k == 15) = false := by simp; omega
  have h2 : (k == 16) = false := by simp; omega
  have h3 : (k == 17) = false := by simp; omega
  clear h
  go_enter Try.func28, Try.ntmps28
  go_wp2
  go_ret
  exact ⟨rfl, rfl⟩
theorem lsp_yes (k : Int) (h : k = 18 ∨ k = 20) (w : World) : Calls Try.prog 29 #[.int .u8 k] w fun e w' => e = .returned (.bool true) ∧ w = w' := by
  rcases h with rfl | rfl <;>
  · go_enter Try.func29, Try.ntmps29
    go_wp2
    go_ret
    exact ⟨rfl, rfl⟩
theorem lsp_no (k : Int) (h : ¬ (k = 18 ∨ k = 20)) (w : World) : Calls Try.prog 29 #[.int .u8 k] w fun e w' => e = .returned (.bool false) ∧ w = w' := by
  have h1 : (k == 18) = false := by simp; omega
  have h2 : (k == 20) = false := by simp; omega
  clear h
  go_enter Try.func29, Try.ntmps29
  go_wp2
  go_ret
  exact ⟨rfl, rfl⟩
/-- Plain of the classes -/
def pl0 (x : Pd) : Pd := ⟨x.kd, x.ci, cutSys x.so, x.ho, x.nu, 0, z0, 0, z0, 0, 0, z0, z0, x.A, x.m, x.c⟩
def pl1 (x : Pd) : Pd := ⟨x.kd, x.ci, cutSys x.so, x.ho, 0, x.pr, x.la, 0, z0, 0, 0, z0, z0, x.A, x.m, x.c⟩
def pl2 (x : Pd) : Pd := ⟨x.kd, 0, z0, 0, 0, 0, z0, x.li, x.id, x.sq, x.bi, z0, z0, x.A, x.m, x.c⟩
def pl3 (x : Pd) : Pd := ⟨x.kd, 0, x.so, 0, 0, 0, z0, 0, z0, 0, 0, x.st, x.en, x.A, x.m, x.c⟩
def pl4 (x : Pd) : Pd := ⟨x.kd, 0, x.so, 0, 0, 0, z0, 0, z0, 0, 0, z0, z0, x.A, x.m, x.c⟩
set_option maxHeartbeats 4000000 in
set_option maxRecDepth 100000 in
theorem plain_0 (x : Pd) (hk : x.kd = 17) (w : World) :
    Calls Try.prog 18 #[.agg (pdC x)] w fun e w' => e = .returned (.agg (pdC (pl0 x))) ∧ Below w.heap.size w w' := by
  have a0 := pdC_kd x
  have a46 := pdC_tl x
  have HH := Lib.hid (hello_yes x.kd (.inr (.inr hk)))
  have h17 : (x.kd == 17) = true := by simpa using hk
  clear hk
  obtain ⟨W1, hW1⟩ : ∃ W1, w.alloc (.cells (pdC x) 31) = W1 := ⟨_, rfl⟩
  obtain ⟨W2, hW2⟩ : ∃ W2, W1.alloc (.cells (pdC pd0) 31) = W2 := ⟨_, rfl⟩
  obtain ⟨W3, hW3⟩ : ∃ W3, W2.alloc (.cells (pdC pd0) 31) = W3 := ⟨_, rfl⟩
  have hs1 : W1.heap.size = w.heap.size + 1 := by rw [← hW1]; simp
  have hs2 : W2.heap.size = w.heap.size + 2 := by rw [← hW2]; simp [hs1]
  have hx1 : PdT 31 W1 w.heap.size x := by rw [← hW1]; exact heap_alloc_new w _
  have hx2 : PdT 31 W2 w.heap.size x := by rw [← hW2]; exact (Below.heap_alloc _ _ _ (by omega)).trans hx1
  have hx3 : PdT 31 W3 w.heap.size x := by rw [← hW3]; exact (Below.heap_alloc _ _ _ (by omega)).trans hx2
  have hr2 : PdT 31 W2 (w.heap.size + 1) pd0 := by rw [← hW2, ← hs1]; exact heap_alloc_new W1 _
  have hr3 : PdT 31 W3 (w.heap.size + 1) pd0 := by rw [← hW3]; exact (Below.heap_alloc _ _ _ (by omega)).trans hr2
  have hq3 : PdT 31 W3 (w.heap.size + 2) pd0 := by rw [← hW3, ← hs2]; exact heap_alloc_new W2 _
  have hb3 : Below w.heap.size w W3 := by rw [← hW3, ← hW2, ← hW1]; exact (((bself w).alloc (Nat.le_refl _) _).alloc (by simp) _).alloc (by simp; omega) _
  have HW1 := Lib.hid hW1
  have HW2 := Lib.hid hW2
  have HW3 := Lib.hid hW3
  have HS1 := Lib.hid hs1
  have HS2 := Lib.hid hs2
  have HX3 := Lib.hid hx3
  have HR3 := Lib.hid hr3
  have HQ3 := Lib.hid hq3
  have HB3 := Lib.hid hb3
  obtain ⟨X, hX⟩ : ∃ X, w.heap.size = X := ⟨_, rfl⟩
  have c0 : W2.cell? ⟨w.heap.size, 0, none⟩ = some (.int .u8 x.kd) := (hx2.cell 0).trans a0
  have c46 : W2.cell? ⟨w.heap.size, 46, none⟩ = some (.slice x.A x.m x.c) := (hx2.cell 46).trans a46
  clear hW1 hW2 hW3 hs1 hs2 hx1 hx2 hx3 hr2 hr3 hq3 hb3
  go_enter Try.func18, Try.ntmps18
  rw [hX] at c0 c46 HS1 HS2 HX3 HR3 HQ3
  have HXX := Lib.hid hX
  clear hX
  go_wp2_with (first
    | (refine wpList_v (op := ⟨some 2, _, _, _, _, _⟩) rfl _ (alloc_R' _ _ rfl _ W2 (X + 1) (by rw [HW1.out]; exact HS1.out) (by rw [HW1.out]; exact HW2.out)) ?_; rw [HXX.out])
    | (refine wpList_v rfl _ (build_K _ _ (.tmp 5) (.tmp 7) rfl x rfl rfl _) ?_)
    | (refine wpList_v (op := ⟨some 3, _, _, _, _, _⟩) rfl _ (alloc_R' _ _ rfl _ W3 (X + 2) HS2.out HW3.out) ?_)
    | (refine wpList_st rfl 31 (.tmp 3) (.tmp 8) rfl (X + 2) 0 rfl (.agg (pdC (pdK x))) (pdC (pdK x)) rfl rfl info_pdR (pdC_one _) HQ3.out (Nat.le_of_ble_eq_true rfl) (pd_all _ _) ?_; intro w1 hst1; refine Hid.out ?_))
  refine Lib.hid ?_
  have HX : Hid (PdT 31 w1 X x) := Lib.hid (PdT.far HX3.out hst1 (by omega))
  have HR : Hid (PdT 31 w1 (X + 1) pd0) := Lib.hid (PdT.far HR3.out hst1 (by omega))
  have HQ : Hid (PdT 31 w1 (X + 2) (pdK x)) := Lib.hid hst1.1
  have HBx : Hid (Below (X + 2) w1 w1) := Lib.hid (Below.refl _ _)
  have HB1 : Hid (Below w.heap.size w w1) := Lib.hid (HB3.out.trans (hst1.2.1 _ (by rw [HXX.out]; omega)))
  have hne : X ≠ X + 2 := by omega
  have hBQ : X + 2 ≤ X + 2 := Nat.le_refl _
  have c0 : w1.cell? ⟨X, 0, none⟩ = some (.int .u8 x.kd) := (HX.out.cell 0).trans a0
  clear hst1 HX3 HR3 HQ3 HB3
  go_wp2_with fail
  refine (HH.out _).mono ?_
  rintro e w2 ⟨rfl, rfl⟩
  go_wp2_with fail
  refine wp_region_held_drew (S := fun w' => PdT 31 w' X x) (by kernel_rfl) HX.out (fun hS0 => ?_)
  refine takeY (i := 0) (some 25) (v := .pointer (some ⟨X, 1, none⟩)) rfl rfl (by kernel_rfl) (by kernel_rfl) (by kernel_rfl) (fun _ _ _ h => h) (by rfl) (fun w' hS => by go_simp) hS0 ?_
  simp only [Act.put, List.setIfInBounds_toArray, List.set_cons_zero, List.set_cons_succ]
  refine takeY (i := 1) (some 26) (v := .int .u8 x.ci) rfl rfl (by kernel_rfl) (by kernel_rfl) (by kernel_rfl) (fun _ _ _ h => h) (by rfl) (fun w' hS => by have c9 : w'.cell? ⟨X, 1, none⟩ = some (.int .u8 x.ci) := (hS.cell 1).trans rfl; clear hS; go_simp) hS0 ?_
  simp only [Act.put, List.setIfInBounds_toArray, List.set_cons_zero, List.set_cons_succ]
  refine takeY (i := 2) (some 27) (v := .pointer (some ⟨X, 2, none⟩)) rfl rfl (by kernel_rfl) (by kernel_rfl) (by kernel_rfl) (fun _ _ _ h => h) (by rfl) (fun w' hS => by go_simp) hS0 ?_
  simp only [Act.put, List.setIfInBounds_toArray, List.set_cons_zero, List.set_cons_succ]
  refine takeY (i := 3) (some 28) (v := .pointer (some ⟨X, 2, none⟩)) rfl rfl (by kernel_rfl) (by kernel_rfl) (by kernel_rfl) (fun _ _ _ h => h) (by rfl) (fun w' hS => by go_simp) hS0 ?_
  simp only [Act.put, List.setIfInBounds_toArray, List.set_cons_zero, List.set_cons_succ]
  refine takeL (i := 4) (some 29) 23 (.tmp 28) X 2 (syC x.so) _ rfl rfl (by kernel_rfl) (by kernel_rfl) (by kernel_rfl) (fun _ _ _ h => h) (by rfl) rfl rfl (fun w' hS => hS.sys) Try.underlying23 rfl info_sys hS0 ?_
  simp only [Act.put, List.setIfInBounds_toArray, List.set_cons_zero, List.set_cons_succ]
  refine takeY (i := 5) (some 30) (v := .pointer (some ⟨X, 9, none⟩)) rfl rfl (by kernel_rfl) (by kernel_rfl) (by kernel_rfl) (fun _ _ _ h => h) (by rfl) (fun w' hS => by go_simp) hS0 ?_
  simp only [Act.put, List.setIfInBounds_toArray, List.set_cons_zero, List.set_cons_succ]
  refine takeY (i := 6) (some 31) (v := .int .i64 x.ho) rfl rfl (by kernel_rfl) (by kernel_rfl) (by kernel_rfl) (fun _ _ _ h => h) (by rfl) (fun w' hS => by have c9 : w'.cell? ⟨X, 9, none⟩ = some (.int .i64 x.ho) := (hS.cell 9).trans rfl; clear hS; go_simp) hS0 ?_
  simp only [Act.put, List.setIfInBounds_toArray, List.set_cons_zero, List.set_cons_succ]
  have HS0 := Lib.hid hS0
  have HQ0 := HQ
  have HBx0 := Lib.hid (HBx.out.drew)
  clear hS0
  have hSn := HS0.out
  refine takeY (i := 7) (some 32) (v := .pointer (some ⟨(X + 2), 1, none⟩)) rfl rfl (by kernel_rfl) (by kernel_rfl) (by kernel_rfl) (fun _ _ _ h => h) (by rfl) (fun w' hS => by go_simp) hSn ?_
  simp only [Act.put, List.setIfInBounds_toArray, List.set_cons_zero, List.set_cons_succ]
  clear hSn
  refine takeSt (i := 8) 5 (.tmp 32) (.tmp 26) (X + 2) 1 (.int .u8 x.ci) #[.int .u8 x.ci] (pdC (⟨x.kd, x.ci, z0, 0, 0, 0, z0, 0, z0, 0, 0, z0, z0, x.A, x.m, x.c⟩)) rfl rfl (by kernel_rfl) (by rfl) rfl rfl rfl rfl (by kernel_rfl) (by kernel_rfl) HQ0.out (Nat.le_of_ble_eq_true rfl) (by kernel_rfl) (fun w1' hst1 => ⟨PdT.far HS0.out hst1 hne, ?_⟩)
  have HS1 := Lib.hid (PdT.far HS0.out hst1 hne)
  have HQ1 : Hid (PdT 31 w1' (X + 2) (⟨x.kd, x.ci, z0, 0, 0, 0, z0, 0, z0, 0, 0, z0, z0, x.A, x.m, x.c⟩)) := Lib.hid hst1.1
  have HBx1 := Lib.hid (HBx0.out.trans (hst1.2.1 _ hBQ))
  clear hst1
  have hSn := HS1.out
  refine takeY (i := 9) (some 33) (v := .pointer (some ⟨(X + 2), 2, none⟩)) rfl rfl (by kernel_rfl) (by kernel_rfl) (by kernel_rfl) (fun _ _ _ h => h) (by rfl) (fun w' hS => by go_simp) hSn ?_
  simp only [Act.put, List.setIfInBounds_toArray, List.set_cons_zero, List.set_cons_succ]
  refine takeY (i := 10) (some 34) (v := .pointer (some ⟨(X + 2), 2, none⟩)) rfl rfl (by kernel_rfl) (by kernel_rfl) (by kernel_rfl) (fun _ _ _ h => h) (by rfl) (fun w' hS => by go_simp) hSn ?_
  simp only [Act.put, List.setIfInBounds_toArray, List.set_cons_zero, List.set_cons_succ]
  clear hSn
  refine takeSt (i := 11) 23 (.tmp 34) (.tmp 29) (X + 2) 2 (.agg (syC x.so)) (syC x.so) (pdC (⟨x.kd, x.ci, cutSys x.so, 0, 0, 0, z0, 0, z0, 0, 0, z0, z0, x.A, x.m, x.c⟩)) rfl rfl (by kernel_rfl) (by rfl) rfl rfl rfl rfl info_sys (sy_one _) HQ1.out (Nat.le_of_ble_eq_true rfl) (by kernel_rfl) (fun w2' hst2 => ⟨PdT.far HS1.out hst2 hne, ?_⟩)
  have HS2 := Lib.hid (PdT.far HS1.out hst2 hne)
  have HQ2 : Hid (PdT 31 w2' (X + 2) (⟨x.kd, x.ci, cutSys x.so, 0, 0, 0, z0, 0, z0, 0, 0, z0, z0, x.A, x.m, x.c⟩)) := Lib.hid hst2.1
  have HBx2 := Lib.hid (HBx1.out.trans (hst2.2.1 _ hBQ))
  clear hst2
  have hSn := HS2.out
  refine takeY (i := 12) (some 35) (v := .pointer (some ⟨(X + 2), 9, none⟩)) rfl rfl (by kernel_rfl) (by kernel_rfl) (by kernel_rfl) (fun _ _ _ h => h) (by rfl) (fun w' hS => by go_simp) hSn ?_
  simp only [Act.put, List.setIfInBounds_toArray, List.set_cons_zero, List.set_cons_succ]
  clear hSn
  refine takeSt (i := 13) 3 (.tmp 35) (.tmp 31) (X + 2) 9 (.int .i64 x.ho) #[.int .i64 x.ho] (pdC (⟨x.kd, x.ci, cutSys x.so, x.ho, 0, 0, z0, 0, z0, 0, 0, z0, z0, x.A, x.m, x.c⟩)) rfl rfl (by kernel_rfl) (by rfl) rfl rfl rfl rfl (by kernel_rfl) (by kernel_rfl) HQ2.out (Nat.le_of_ble_eq_true rfl) (by kernel_rfl) (fun w3' hst3 => ⟨PdT.far HS2.out hst3 hne, ?_⟩)
  have HS3 := Lib.hid (PdT.far HS2.out hst3 hne)
  have HQ3 : Hid (PdT 31 w3' (X + 2) (⟨x.kd, x.ci, cutSys x.so, x.ho, 0, 0, z0, 0, z0, 0, 0, z0, z0, x.A, x.m, x.c⟩)) := Lib.hid hst3.1
  have HBx3 := Lib.hid (HBx2.out.trans (hst3.2.1 _ hBQ))
  clear hst3
  refine wpAnyH_done (by kernel_rfl) ?_ _
  have HX' := HS3
  have HQ' := HQ3
  have HBx' := HBx3
  clear HX HQ HBx HQ0 HS0 HBx0 HS1 HQ1 HBx1 HS2 HQ2 HBx2 HS3 HQ3 HBx3
  have c0' : w3'.cell? ⟨X, 0, none⟩ = some (.int .u8 x.kd) := (HX'.out.cell 0).trans a0
  have c10 : w3'.cell? ⟨X, 10, none⟩ = some (.int .u8 x.nu) := (HX'.out.cell 10).trans rfl
  go_wp2_with (refine wpList_st rfl 5 (.tmp 41) (.tmp 40) rfl (X + 2) 10 rfl (.int .u8 x.nu) #[.int .u8 x.nu] rfl rfl (by kernel_rfl) (by kernel_rfl) HQ'.out (Nat.le_of_ble_eq_true rfl) (C' := pdC (pl0 x)) (by kernel_rfl) ?_; intro w4' hst; refine Hid.out ?_)
  refine Lib.hid ?_
  have HQ2 : Hid (PdT 31 w4' (X + 2) (pl0 x)) := Lib.hid hst.1
  have HBx2 := Lib.hid (HBx'.out.trans (hst.2.1 _ hBQ))
  clear hst c0' c10 HQ' HX' HBx' c0
  have HQ' := HQ2
  have HBx' := HBx2
  have HR8 : Hid (PdT 31 w4' (X + 1) pd0) := Lib.hid (HR.out.below HBx'.out (by omega))
  have HB8 : Hid (Below w.heap.size w w4') := Lib.hid (HB1.out.trans (HBx'.out.mono (by rw [HXX.out]; omega)))
  go_wp2_with (first
    | (refine wpList_load_mid rfl 31 (.tmp 3) rfl (X + 2) 0 rfl (pdC (pl0 x)).toList _ HQ'.out.all Try.underlying31 rfl info_pdR ?_)
    | (refine wpList_st rfl 31 (.tmp 2) (.tmp 64) rfl (X + 1) 0 rfl (.agg (pdC (pl0 x))) (pdC (pl0 x)) rfl rfl info_pdR (pdC_one _) HR8.out (Nat.le_of_ble_eq_true rfl) (pd_all _ _) ?_; intro w9 hst9; refine Hid.out ?_))
  refine Lib.hid ?_
  have HR9 : Hid (PdT 31 w9 (X + 1) (pl0 x)) := Lib.hid hst9.1
  have HB9 := Lib.hid (HB8.out.trans (hst9.2.1 _ (by rw [HXX.out]; omega)))
  clear hst9
  go_wp2_with fail
  refine bodyPost_ret (results_R rfl _ w9 (X + 1) _ rfl HR9.out) rfl ⟨rfl, HB9.out⟩
set_option maxHeartbeats 4000000 in
set_option maxRecDepth 100000 in
theorem plain_1 (x : Pd) (hk : x.kd = 15 ∨ x.kd = 16) (w : World) :
    Calls Try.prog 18 #[.agg (pdC x)] w fun e w' => e = .returned (.agg (pdC (pl1 x))) ∧ Below w.heap.size w w' := by
  have a0 := pdC_kd x
  have a46 := pdC_tl x
  have HH := Lib.hid (hello_yes x.kd (by omega))
  have h17 : (x.kd == 17) = false := by simp; omega
  clear hk
  obtain ⟨W1, hW1⟩ : ∃ W1, w.alloc (.cells (pdC x) 31) = W1 := ⟨_, rfl⟩
  obtain ⟨W2, hW2⟩ : ∃ W2, W1.alloc (.cells (pdC pd0) 31) = W2 := ⟨_, rfl⟩
  obtain ⟨W3, hW3⟩ : ∃ W3, W2.alloc (.cells (pdC pd0) 31) = W3 := ⟨_, rfl⟩
  have hs1 : W1.heap.size = w.heap.size + 1 := by rw [← hW1]; simp
  have hs2 : W2.heap.size = w.heap.size + 2 := by rw [← hW2]; simp [hs1]
  have hx1 : PdT 31 W1 w.heap.size x := by rw [← hW1]; exact heap_alloc_new w _
  have hx2 : PdT 31 W2 w.heap.size x := by rw [← hW2]; exact (Below.heap_alloc _ _ _ (by omega)).trans hx1
  have hx3 : PdT 31 W3 w.heap.size x := by rw [← hW3]; exact (Below.heap_alloc _ _ _ (by omega)).trans hx2
  have hr2 : PdT 31 W2 (w.heap.size + 1) pd0 := by rw [← hW2, ← hs1]; exact heap_alloc_new W1 _
  have hr3 : PdT 31 W3 (w.heap.size + 1) pd0 := by rw [← hW3]; exact (Below.heap_alloc _ _ _ (by omega)).trans hr2
  have hq3 : PdT 31 W3 (w.heap.size + 2) pd0 := by rw [← hW3, ← hs2]; exact heap_alloc_new W2 _
  have hb3 : Below w.heap.size w W3 := by rw [← hW3, ← hW2, ← hW1]; exact (((bself w).alloc (Nat.le_refl _) _).alloc (by simp) _).alloc (by simp; omega) _
  have HW1 := Lib.hid hW1
  have HW2 := Lib.hid hW2
  have HW3 := Lib.hid hW3
  have HS1 := Lib.hid hs1
  have HS2 := Lib.hid hs2
  have HX3 := Lib.hid hx3
  have HR3 := Lib.hid hr3
  have HQ3 := Lib.hid hq3
  have HB3 := Lib.hid hb3
  obtain ⟨X, hX⟩ : ∃ X, w.heap.size = X := ⟨_, rfl⟩
  have c0 : W2.cell? ⟨w.heap.size, 0, none⟩ = some (.int .u8 x.kd) := (hx2.cell 0).trans a0
  have c46 : W2.cell? ⟨w.heap.size, 46, none⟩ = some (.slice x.A x.m x.c) := (hx2.cell 46).trans a46
  clear hW1 hW2 hW3 hs1 hs2 hx1 hx2 hx3 hr2 hr3 hq3 hb3
  go_enter Try.func18, Try.ntmps18
  rw [hX] at c0 c46 HS1 HS2 HX3 HR3 HQ3
  have HXX := Lib.hid hX
  clear hX
  go_wp2_with (first
    | (refine wpList_v (op := ⟨some 2, _, _, _, _, _⟩) rfl _ (alloc_R' _ _ rfl _ W2 (X + 1) (by rw [HW1.out]; exact HS1.out) (by rw [HW1.out]; exact HW2.out)) ?_; rw [HXX.out])
    | (refine wpList_v rfl _ (build_K _ _ (.tmp 5) (.tmp 7) rfl x rfl rfl _) ?_)
    | (refine wpList_v (op := ⟨some 3, _, _, _, _, _⟩) rfl _ (alloc_R' _ _ rfl _ W3 (X + 2) HS2.out HW3.out) ?_)
    | (refine wpList_st rfl 31 (.tmp 3) (.tmp 8) rfl (X + 2) 0 rfl (.agg (pdC (pdK x))) (pdC (pdK x)) rfl rfl info_pdR (pdC_one _) HQ3.out (Nat.le_of_ble_eq_true rfl) (pd_all _ _) ?_; intro w1 hst1; refine Hid.out ?_))
  refine Lib.hid ?_
  have HX : Hid (PdT 31 w1 X x) := Lib.hid (PdT.far HX3.out hst1 (by omega))
  have HR : Hid (PdT 31 w1 (X + 1) pd0) := Lib.hid (PdT.far HR3.out hst1 (by omega))
  have HQ : Hid (PdT 31 w1 (X + 2) (pdK x)) := Lib.hid hst1.1
  have HBx : Hid (Below (X + 2) w1 w1) := Lib.hid (Below.refl _ _)
  have HB1 : Hid (Below w.heap.size w w1) := Lib.hid (HB3.out.trans (hst1.2.1 _ (by rw [HXX.out]; omega)))
  have hne : X ≠ X + 2 := by omega
  have hBQ : X + 2 ≤ X + 2 := Nat.le_refl _
  have c0 : w1.cell? ⟨X, 0, none⟩ = some (.int .u8 x.kd) := (HX.out.cell 0).trans a0
  clear hst1 HX3 HR3 HQ3 HB3
  go_wp2_with fail
  refine (HH.out _).mono ?_
  rintro e w2 ⟨rfl, rfl⟩
  go_wp2_with fail
  refine wp_region_held_drew (S := fun w' => PdT 31 w' X x) (by kernel_rfl) HX.out (fun hS0 => ?_)
  refine takeY (i := 0) (some 25) (v := .pointer (some ⟨X, 1, none⟩)) rfl rfl (by kernel_rfl) (by kernel_rfl) (by kernel_rfl) (fun _ _ _ h => h) (by rfl) (fun w' hS => by go_simp) hS0 ?_
  simp only [Act.put, List.setIfInBounds_toArray, List.set_cons_zero, List.set_cons_succ]
  refine takeY (i := 1) (some 26) (v := .int .u8 x.ci) rfl rfl (by kernel_rfl) (by kernel_rfl) (by kernel_rfl) (fun _ _ _ h => h) (by rfl) (fun w' hS => by have c9 : w'.cell? ⟨X, 1, none⟩ = some (.int .u8 x.ci) := (hS.cell 1).trans rfl; clear hS; go_simp) hS0 ?_
  simp only [Act.put, List.setIfInBounds_toArray, List.set_cons_zero, List.set_cons_succ]
  refine takeY (i := 2) (some 27) (v := .pointer (some ⟨X, 2, none⟩)) rfl rfl (by kernel_rfl) (by kernel_rfl) (by kernel_rfl) (fun _ _ _ h => h) (by rfl) (fun w' hS => by go_simp) hS0 ?_
  simp only [Act.put, List.setIfInBounds_toArray, List.set_cons_zero, List.set_cons_succ]
  refine takeY (i := 3) (some 28) (v := .pointer (some ⟨X, 2, none⟩)) rfl rfl (by kernel_rfl) (by kernel_rfl) (by kernel_rfl) (fun _ _ _ h => h) (by rfl) (fun w' hS => by go_simp) hS0 ?_
  simp only [Act.put, List.setIfInBounds_toArray, List.set_cons_zero, List.set_cons_succ]
  refine takeL (i := 4) (some 29) 23 (.tmp 28) X 2 (syC x.so) _ rfl rfl (by kernel_rfl) (by kernel_rfl) (by kernel_rfl) (fun _ _ _ h => h) (by rfl) rfl rfl (fun w' hS => hS.sys) Try.underlying23 rfl info_sys hS0 ?_
  simp only [Act.put, List.setIfInBounds_toArray, List.set_cons_zero, List.set_cons_succ]
  refine takeY (i := 5) (some 30) (v := .pointer (some ⟨X, 9, none⟩)) rfl rfl (by kernel_rfl) (by kernel_rfl) (by kernel_rfl) (fun _ _ _ h => h) (by rfl) (fun w' hS => by go_simp) hS0 ?_
  simp only [Act.put, List.setIfInBounds_toArray, List.set_cons_zero, List.set_cons_succ]
  refine takeY (i := 6) (some 31) (v := .int .i64 x.ho) rfl rfl (by kernel_rfl) (by kernel_rfl) (by kernel_rfl) (fun _ _ _ h => h) (by rfl) (fun w' hS => by have c9 : w'.cell? ⟨X, 9, none⟩ = some (.int .i64 x.ho) := (hS.cell 9).trans rfl; clear hS; go_simp) hS0 ?_
  simp only [Act.put, List.setIfInBounds_toArray, List.set_cons_zero, List.set_cons_succ]
  have HS0 := Lib.hid hS0
  have HQ0 := HQ
  have HBx0 := Lib.hid (HBx.out.drew)
  clear hS0
  have hSn := HS0.out
  refine takeY (i := 7) (some 32) (v := .pointer (some ⟨(X + 2), 1, none⟩)) rfl rfl (by kernel_rfl) (by kernel_rfl) (by kernel_rfl) (fun _ _ _ h => h) (by rfl) (fun w' hS => by go_simp) hSn ?_
  simp only [Act.put, List.setIfInBounds_toArray, List.set_cons_zero, List.set_cons_succ]
  clear hSn
  refine takeSt (i := 8) 5 (.tmp 32) (.tmp 26) (X + 2) 1 (.int .u8 x.ci) #[.int .u8 x.ci] (pdC (⟨x.kd, x.ci, z0, 0, 0, 0, z0, 0, z0, 0, 0, z0, z0, x.A, x.m, x.c⟩)) rfl rfl (by kernel_rfl) (by rfl) rfl rfl rfl rfl (by kernel_rfl) (by kernel_rfl) HQ0.out (Nat.le_of_ble_eq_true rfl) (by kernel_rfl) (fun w1' hst1 => ⟨PdT.far HS0.out hst1 hne, ?_⟩)
  have HS1 := Lib.hid (PdT.far HS0.out hst1 hne)
  have HQ1 : Hid (PdT 31 w1' (X + 2) (⟨x.kd, x.ci, z0, 0, 0, 0, z0, 0, z0, 0, 0, z0, z0, x.A, x.m, x.c⟩)) := Lib.hid hst1.1
  have HBx1 := Lib.hid (HBx0.out.trans (hst1.2.1 _ hBQ))
  clear hst1
  have hSn := HS1.out
  refine takeY (i := 9) (some 33) (v := .pointer (some ⟨(X + 2), 2, none⟩)) rfl rfl (by kernel_rfl) (by kernel_rfl) (by kernel_rfl) (fun _ _ _ h => h) (by rfl) (fun w' hS => by go_simp) hSn ?_
  simp only [Act.put, List.setIfInBounds_toArray, List.set_cons_zero, List.set_cons_succ]
  refine takeY (i := 10) (some 34) (v := .pointer (some ⟨(X + 2), 2, none⟩)) rfl rfl (by kernel_rfl) (by kernel_rfl) (by kernel_rfl) (fun _ _ _ h => h) (by rfl) (fun w' hS => by go_simp) hSn ?_
  simp only [Act.put, List.setIfInBounds_toArray, List.set_cons_zero, List.set_cons_succ]
  clear hSn
  refine takeSt (i := 11) 23 (.tmp 34) (.tmp 29) (X + 2) 2 (.agg (syC x.so)) (syC x.so) (pdC (⟨x.kd, x.ci, cutSys x.so, 0, 0, 0, z0, 0, z0, 0, 0, z0, z0, x.A, x.m, x.c⟩)) rfl rfl (by kernel_rfl) (by rfl) rfl rfl rfl rfl info_sys (sy_one _) HQ1.out (Nat.le_of_ble_eq_true rfl) (by kernel_rfl) (fun w2' hst2 => ⟨PdT.far HS1.out hst2 hne, ?_⟩)
  have HS2 := Lib.hid (PdT.far HS1.out hst2 hne)
  have HQ2 : Hid (PdT 31 w2' (X + 2) (⟨x.kd, x.ci, cutSys x.so, 0, 0, 0, z0, 0, z0, 0, 0, z0, z0, x.A, x.m, x.c⟩)) := Lib.hid hst2.1
  have HBx2 := Lib.hid (HBx1.out.trans (hst2.2.1 _ hBQ))
  clear hst2
  have hSn := HS2.out
  refine takeY (i := 12) (some 35) (v := .pointer (some ⟨(X + 2), 9, none⟩)) rfl rfl (by kernel_rfl) (by kernel_rfl) (by kernel_rfl) (fun _ _ _ h => h) (by rfl) (fun w' hS => by go_simp) hSn ?_
  simp only [Act.put, List.setIfInBounds_toArray, List.set_cons_zero, List.set_cons_succ]
  clear hSn
  refine takeSt (i := 13) 3 (.tmp 35) (.tmp 31) (X + 2) 9 (.int .i64 x.ho) #[.int .i64 x.ho] (pdC (⟨x.kd, x.ci, cutSys x.so, x.ho, 0, 0, z0, 0, z0, 0, 0, z0, z0, x.A, x.m, x.c⟩)) rfl rfl (by kernel_rfl) (by rfl) rfl rfl rfl rfl (by kernel_rfl) (by kernel_rfl) HQ2.out (Nat.le_of_ble_eq_true rfl) (by kernel_rfl) (fun w3' hst3 => ⟨PdT.far HS2.out hst3 hne, ?_⟩)
  have HS3 := Lib.hid (PdT.far HS2.out hst3 hne)
  have HQ3 : Hid (PdT 31 w3' (X + 2) (⟨x.kd, x.ci, cutSys x.so, x.ho, 0, 0, z0, 0, z0, 0, 0, z0, z0, x.A, x.m, x.c⟩)) := Lib.hid hst3.1
  have HBx3 := Lib.hid (HBx2.out.trans (hst3.2.1 _ hBQ))
  clear hst3
  refine wpAnyH_done (by kernel_rfl) ?_ _
  have HX' := HS3
  have HQ' := HQ3
  have HBx' := HBx3
  clear HX HQ HBx HQ0 HS0 HBx0 HS1 HQ1 HBx1 HS2 HQ2 HBx2 HS3 HQ3 HBx3
  have c0' : w3'.cell? ⟨X, 0, none⟩ = some (.int .u8 x.kd) := (HX'.out.cell 0).trans a0
  clear c0
  go_wp2_with fail
  clear c0'
  have HX := HX'
  have HQ := HQ'
  have HBx := HBx'
  clear HX' HQ' HBx'
  refine wp_region_held_drew (S := fun w' => PdT 31 w' X x) (by kernel_rfl) HX.out (fun hS0 => ?_)
  refine takeY (i := 0) (some 42) (v := .pointer (some ⟨X, 11, none⟩)) rfl rfl (by kernel_rfl) (by kernel_rfl) (by kernel_rfl) (fun _ _ _ h => h) (by rfl) (fun w' hS => by go_simp) hS0 ?_
  simp only [Act.put, List.setIfInBounds_toArray, List.set_cons_zero, List.set_cons_succ]
  refine takeY (i := 1) (some 43) (v := .int .u8 x.pr) rfl rfl (by kernel_rfl) (by kernel_rfl) (by kernel_rfl) (fun _ _ _ h => h) (by rfl) (fun w' hS => by have c9 : w'.cell? ⟨X, 11, none⟩ = some (.int .u8 x.pr) := (hS.cell 11).trans rfl; clear hS; go_simp) hS0 ?_
  simp only [Act.put, List.setIfInBounds_toArray, List.set_cons_zero, List.set_cons_succ]
  refine takeY (i := 2) (some 44) (v := .pointer (some ⟨X, 12, none⟩)) rfl rfl (by kernel_rfl) (by kernel_rfl) (by kernel_rfl) (fun _ _ _ h => h) (by rfl) (fun w' hS => by go_simp) hS0 ?_
  simp only [Act.put, List.setIfInBounds_toArray, List.set_cons_zero, List.set_cons_succ]
  refine takeL (i := 3) (some 45) 25 (.tmp 44) X 12 (ndC x.la) _ rfl rfl (by kernel_rfl) (by kernel_rfl) (by kernel_rfl) (fun _ _ _ h => h) (by rfl) rfl rfl (fun w' hS => hS.la) Try.underlying25 rfl info_node hS0 ?_
  simp only [Act.put, List.setIfInBounds_toArray, List.set_cons_zero, List.set_cons_succ]
  have HS0 := Lib.hid hS0
  have HQ0 := HQ
  have HBx0 := Lib.hid (HBx.out.drew)
  clear hS0
  have hSn := HS0.out
  refine takeY (i := 4) (some 46) (v := .pointer (some ⟨(X + 2), 11, none⟩)) rfl rfl (by kernel_rfl) (by kernel_rfl) (by kernel_rfl) (fun _ _ _ h => h) (by rfl) (fun w' hS => by go_simp) hSn ?_
  simp only [Act.put, List.setIfInBounds_toArray, List.set_cons_zero, List.set_cons_succ]
  clear hSn
  refine takeSt (i := 5) 5 (.tmp 46) (.tmp 43) (X + 2) 11 (.int .u8 x.pr) #[.int .u8 x.pr] (pdC (⟨x.kd, x.ci, cutSys x.so, x.ho, 0, x.pr, z0, 0, z0, 0, 0, z0, z0, x.A, x.m, x.c⟩)) rfl rfl (by kernel_rfl) (by rfl) rfl rfl rfl rfl (by kernel_rfl) (by kernel_rfl) HQ0.out (Nat.le_of_ble_eq_true rfl) (by kernel_rfl) (fun v1' hst1 => ⟨PdT.far HS0.out hst1 hne, ?_⟩)
  have HS1 := Lib.hid (PdT.far HS0.out hst1 hne)
  have HQ1 : Hid (PdT 31 v1' (X + 2) (⟨x.kd, x.ci, cutSys x.so, x.ho, 0, x.pr, z0, 0, z0, 0, 0, z0, z0, x.A, x.m, x.c⟩)) := Lib.hid hst1.1
  have HBx1 := Lib.hid (HBx0.out.trans (hst1.2.1 _ hBQ))
  clear hst1
  have hSn := HS1.out
  refine takeY (i := 6) (some 47) (v := .pointer (some ⟨(X + 2), 12, none⟩)) rfl rfl (by kernel_rfl) (by kernel_rfl) (by kernel_rfl) (fun _ _ _ h => h) (by rfl) (fun w' hS => by go_simp) hSn ?_
  simp only [Act.put, List.setIfInBounds_toArray, List.set_cons_zero, List.set_cons_succ]
  clear hSn
  refine takeSt (i := 7) 25 (.tmp 47) (.tmp 45) (X + 2) 12 (.agg (ndC x.la)) (ndC x.la) (pdC (⟨x.kd, x.ci, cutSys x.so, x.ho, 0, x.pr, x.la, 0, z0, 0, 0, z0, z0, x.A, x.m, x.c⟩)) rfl rfl (by kernel_rfl) (by rfl) rfl rfl rfl rfl info_node (nd_all _) HQ1.out (Nat.le_of_ble_eq_true rfl) (by kernel_rfl) (fun v2' hst2 => ⟨PdT.far HS1.out hst2 hne, ?_⟩)
  have HS2 := Lib.hid (PdT.far HS1.out hst2 hne)
  have HQ2 : Hid (PdT 31 v2' (X + 2) (⟨x.kd, x.ci, cutSys x.so, x.ho, 0, x.pr, x.la, 0, z0, 0, 0, z0, z0, x.A, x.m, x.c⟩)) := Lib.hid hst2.1
  have HBx2 := Lib.hid (HBx1.out.trans (hst2.2.1 _ hBQ))
  clear hst2
  refine wpAnyH_done (by kernel_rfl) ?_ _
  have HX' := HS2
  have HQ' := HQ2
  have HBx' := HBx2
  clear HX HQ HBx HQ0 HS0 HBx0 HS1 HQ1 HBx1 HS2 HQ2 HBx2
  have HR8 : Hid (PdT 31 v2' (X + 1) pd0) := Lib.hid (HR.out.below HBx'.out (by omega))
  have HB8 : Hid (Below w.heap.size w v2') := Lib.hid (HB1.out.trans (HBx'.out.mono (by rw [HXX.out]; omega)))
  go_wp2_with (first
    | (refine wpList_load_mid rfl 31 (.tmp 3) rfl (X + 2) 0 rfl (pdC (pl1 x)).toList _ HQ'.out.all Try.underlying31 rfl info_pdR ?_)
    | (refine wpList_st rfl 31 (.tmp 2) (.tmp 64) rfl (X + 1) 0 rfl (.agg (pdC (pl1 x))) (pdC (pl1 x)) rfl rfl info_pdR (pdC_one _) HR8.out (Nat.le_of_ble_eq_true rfl) (pd_all _ _) ?_; intro w9 hst9; refine Hid.out ?_))
  refine Lib.hid ?_
  have HR9 : Hid (PdT 31 w9 (X + 1) (pl1 x)) := Lib.hid hst9.1
  have HB9 := Lib.hid (HB8.out.trans (hst9.2.1 _ (by rw [HXX.out]; omega)))
  clear hst9
  go_wp2_with fail
  refine bodyPost_ret (results_R rfl _ w9 (X + 1) _ rfl HR9.out) rfl ⟨rfl, HB9.out⟩
set_option maxHeartbeats 4000000 in
set_option maxRecDepth 100000 in
theorem plain_2 (x : Pd) (hk : x.kd = 18 ∨ x.kd = 20) (w : World) :
    Calls Try.prog 18 #[.agg (pdC x)] w fun e w' => e = .returned (.agg (pdC (pl2 x))) ∧ Below w.heap.size w w' := by
  have a0 := pdC_kd x
  have a46 := pdC_tl x
  have HH := Lib.hid (hello_no x.kd (by omega))
  have HH2 := Lib.hid (lsp_yes x.kd hk)
  clear hk
  obtain ⟨W1, hW1⟩ : ∃ W1, w.alloc (.cells (pdC x) 31) = W1 := ⟨_, rfl⟩
  obtain ⟨W2, hW2⟩ : ∃ W2, W1.alloc (.cells (pdC pd0) 31) = W2 := ⟨_, rfl⟩
  obtain ⟨W3, hW3⟩ : ∃ W3, W2.alloc (.cells (pdC pd0) 31) = W3 := ⟨_, rfl⟩
  have hs1 : W1.heap.size = w.heap.size + 1 := by rw [← hW1]; simp
  have hs2 : W2.heap.size = w.heap.size + 2 := by rw [← hW2]; simp [hs1]
  have hx1 : PdT 31 W1 w.heap.size x := by rw [← hW1]; exact heap_alloc_new w _
  have hx2 : PdT 31 W2 w.heap.size x := by rw [← hW2]; exact (Below.heap_alloc _ _ _ (by omega)).trans hx1
  have hx3 : PdT 31 W3 w.heap.size x := by rw [← hW3]; exact (Below.heap_alloc _ _ _ (by omega)).trans hx2
  have hr2 : PdT 31 W2 (w.heap.size + 1) pd0 := by rw [← hW2, ← hs1]; exact heap_alloc_new W1 _
  have hr3 : PdT 31 W3 (w.heap.size + 1) pd0 := by rw [← hW3]; exact (Below.heap_alloc _ _ _ (by omega)).trans hr2
  have hq3 : PdT 31 W3 (w.heap.size + 2) pd0 := by rw [← hW3, ← hs2]; exact heap_alloc_new W2 _
  have hb3 : Below w.heap.size w W3 := by rw [← hW3, ← hW2, ← hW1]; exact (((bself w).alloc (Nat.le_refl _) _).alloc (by simp) _).alloc (by simp; omega) _
  have HW1 := Lib.hid hW1
  have HW2 := Lib.hid hW2
  have HW3 := Lib.hid hW3
  have HS1 := Lib.hid hs1
  have HS2 := Lib.hid hs2
  have HX3 := Lib.hid hx3
  have HR3 := Lib.hid hr3
  have HQ3 := Lib.hid hq3
  have HB3 := Lib.hid hb3
  obtain ⟨X, hX⟩ : ∃ X, w.heap.size = X := ⟨_, rfl⟩
  have c0 : W2.cell? ⟨w.heap.size, 0, none⟩ = some (.int .u8 x.kd) := (hx2.cell 0).trans a0
  have c46 : W2.cell? ⟨w.heap.size, 46, none⟩ = some (.slice x.A x.m x.c) := (hx2.cell 46).trans a46
  clear hW1 hW2 hW3 hs1 hs2 hx1 hx2 hx3 hr2 hr3 hq3 hb3
  go_enter Try.func18, Try.ntmps18
  rw [hX] at c0 c46 HS1 HS2 HX3 HR3 HQ3
  have HXX := Lib.hid hX
  clear hX
  go_wp2_with (first
    | (refine wpList_v (op := ⟨some 2, _, _, _, _, _⟩) rfl _ (alloc_R' _ _ rfl _ W2 (X + 1) (by rw [HW1.out]; exact HS1.out) (by rw [HW1.out]; exact HW2.out)) ?_; rw [HXX.out])
    | (refine wpList_v rfl _ (build_K _ _ (.tmp 5) (.tmp 7) rfl x rfl rfl _) ?_)
    | (refine wpList_v (op := ⟨some 3, _, _, _, _, _⟩) rfl _ (alloc_R' _ _ rfl _ W3 (X + 2) HS2.out HW3.out) ?_)
    | (refine wpList_st rfl 31 (.tmp 3) (.tmp 8) rfl (X + 2) 0 rfl (.agg (pdC (pdK x))) (pdC (pdK x)) rfl rfl info_pdR (pdC_one _) HQ3.out (Nat.le_of_ble_eq_true rfl) (pd_all _ _) ?_; intro w1 hst1; refine Hid.out ?_))
  refine Lib.hid ?_
  have HX : Hid (PdT 31 w1 X x) := Lib.hid (PdT.far HX3.out hst1 (by omega))
  have HR : Hid (PdT 31 w1 (X + 1) pd0) := Lib.hid (PdT.far HR3.out hst1 (by omega))
  have HQ : Hid (PdT 31 w1 (X + 2) (pdK x)) := Lib.hid hst1.1
  have HBx : Hid (Below (X + 2) w1 w1) := Lib.hid (Below.refl _ _)
  have HB1 : Hid (Below w.heap.size w w1) := Lib.hid (HB3.out.trans (hst1.2.1 _ (by rw [HXX.out]; omega)))
  have hne : X ≠ X + 2 := by omega
  have hBQ : X + 2 ≤ X + 2 := Nat.le_refl _
  have c0 : w1.cell? ⟨X, 0, none⟩ = some (.int .u8 x.kd) := (HX.out.cell 0).trans a0
  clear hst1 HX3 HR3 HQ3 HB3
  go_wp2_with fail
  refine (HH.out _).mono ?_
  rintro e w2 ⟨rfl, rfl⟩
  go_wp2_with fail
  refine (HH2.out _).mono ?_
  rintro e w2 ⟨rfl, rfl⟩
  go_wp2_with fail
  refine wp_region_held_drew (S := fun w' => PdT 31 w' X x) (by kernel_rfl) HX.out (fun hS0 => ?_)
  refine takeY (i := 0) (some 52) (v := .pointer (some ⟨X, 19, none⟩)) rfl rfl (by kernel_rfl) (by kernel_rfl) (by kernel_rfl) (fun _ _ _ h => h) (by rfl) (fun w' hS => by go_simp) hS0 ?_
  simp only [Act.put, List.setIfInBounds_toArray, List.set_cons_zero, List.set_cons_succ]
  refine takeY (i := 1) (some 53) (v := .int .i64 x.li) rfl rfl (by kernel_rfl) (by kernel_rfl) (by kernel_rfl) (fun _ _ _ h => h) (by rfl) (fun w' hS => by have c9 : w'.cell? ⟨X, 19, none⟩ = some (.int .i64 x.li) := (hS.cell 19).trans rfl; clear hS; go_simp) hS0 ?_
  simp only [Act.put, List.setIfInBounds_toArray, List.set_cons_zero, List.set_cons_succ]
  refine takeY (i := 2) (some 54) (v := .pointer (some ⟨X, 20, none⟩)) rfl rfl (by kernel_rfl) (by kernel_rfl) (by kernel_rfl) (fun _ _ _ h => h) (by rfl) (fun w' hS => by go_simp) hS0 ?_
  simp only [Act.put, List.setIfInBounds_toArray, List.set_cons_zero, List.set_cons_succ]
  refine takeL (i := 3) (some 55) 27 (.tmp 54) X 20 (idC x.id) _ rfl rfl (by kernel_rfl) (by kernel_rfl) (by kernel_rfl) (fun _ _ _ h => h) (by rfl) rfl rfl (fun w' hS => hS.id) Try.underlying27 rfl info_id hS0 ?_
  simp only [Act.put, List.setIfInBounds_toArray, List.set_cons_zero, List.set_cons_succ]
  refine takeY (i := 4) (some 56) (v := .pointer (some ⟨X, 28, none⟩)) rfl rfl (by kernel_rfl) (by kernel_rfl) (by kernel_rfl) (fun _ _ _ h => h) (by rfl) (fun w' hS => by go_simp) hS0 ?_
  simp only [Act.put, List.setIfInBounds_toArray, List.set_cons_zero, List.set_cons_succ]
  refine takeY (i := 5) (some 57) (v := .int .u32 (x.sq : Int)) rfl rfl (by kernel_rfl) (by kernel_rfl) (by kernel_rfl) (fun _ _ _ h => h) (by rfl) (fun w' hS => by have c9 : w'.cell? ⟨X, 28, none⟩ = some (.int .u32 (x.sq : Int)) := (hS.cell 28).trans rfl; clear hS; go_simp) hS0 ?_
  simp only [Act.put, List.setIfInBounds_toArray, List.set_cons_zero, List.set_cons_succ]
  refine takeY (i := 6) (some 58) (v := .pointer (some ⟨X, 29, none⟩)) rfl rfl (by kernel_rfl) (by kernel_rfl) (by kernel_rfl) (fun _ _ _ h => h) (by rfl) (fun w' hS => by go_simp) hS0 ?_
  simp only [Act.put, List.setIfInBounds_toArray, List.set_cons_zero, List.set_cons_succ]
  refine takeY (i := 7) (some 59) (v := .int .u8 x.bi) rfl rfl (by kernel_rfl) (by kernel_rfl) (by kernel_rfl) (fun _ _ _ h => h) (by rfl) (fun w' hS => by have c9 : w'.cell? ⟨X, 29, none⟩ = some (.int .u8 x.bi) := (hS.cell 29).trans rfl; clear hS; go_simp) hS0 ?_
  simp only [Act.put, List.setIfInBounds_toArray, List.set_cons_zero, List.set_cons_succ]
  have HS0 := Lib.hid hS0
  have HQ0 := HQ
  have HBx0 := Lib.hid (HBx.out.drew)
  clear hS0
  have hSn := HS0.out
  refine takeY (i := 8) (some 60) (v := .pointer (some ⟨(X + 2), 19, none⟩)) rfl rfl (by kernel_rfl) (by kernel_rfl) (by kernel_rfl) (fun _ _ _ h => h) (by rfl) (fun w' hS => by go_simp) hSn ?_
  simp only [Act.put, List.setIfInBounds_toArray, List.set_cons_zero, List.set_cons_succ]
  clear hSn
  refine takeSt (i := 9) 3 (.tmp 60) (.tmp 53) (X + 2) 19 (.int .i64 x.li) #[.int .i64 x.li] (pdC (⟨x.kd, 0, z0, 0, 0, 0, z0, x.li, z0, 0, 0, z0, z0, x.A, x.m, x.c⟩)) rfl rfl (by kernel_rfl) (by rfl) rfl rfl rfl rfl (by kernel_rfl) (by kernel_rfl) HQ0.out (Nat.le_of_ble_eq_true rfl) (by kernel_rfl) (fun w1' hst1 => ⟨PdT.far HS0.out hst1 hne, ?_⟩)
  have HS1 := Lib.hid (PdT.far HS0.out hst1 hne)
  have HQ1 : Hid (PdT 31 w1' (X + 2) (⟨x.kd, 0, z0, 0, 0, 0, z0, x.li, z0, 0, 0, z0, z0, x.A, x.m, x.c⟩)) := Lib.hid hst1.1
  have HBx1 := Lib.hid (HBx0.out.trans (hst1.2.1 _ hBQ))
  clear hst1
  have hSn := HS1.out
  refine takeY (i := 10) (some 61) (v := .pointer (some ⟨(X + 2), 20, none⟩)) rfl rfl (by kernel_rfl) (by kernel_rfl) (by kernel_rfl) (fun _ _ _ h => h) (by rfl) (fun w' hS => by go_simp) hSn ?_
  simp only [Act.put, List.setIfInBounds_toArray, List.set_cons_zero, List.set_cons_succ]
  clear hSn
  refine takeSt (i := 11) 27 (.tmp 61) (.tmp 55) (X + 2) 20 (.agg (idC x.id)) (idC x.id) (pdC (⟨x.kd, 0, z0, 0, 0, 0, z0, x.li, x.id, 0, 0, z0, z0, x.A, x.m, x.c⟩)) rfl rfl (by kernel_rfl) (by rfl) rfl rfl rfl rfl info_id (id_all _) HQ1.out (Nat.le_of_ble_eq_true rfl) (by kernel_rfl) (fun w2' hst2 => ⟨PdT.far HS1.out hst2 hne, ?_⟩)
  have HS2 := Lib.hid (PdT.far HS1.out hst2 hne)
  have HQ2 : Hid (PdT 31 w2' (X + 2) (⟨x.kd, 0, z0, 0, 0, 0, z0, x.li, x.id, 0, 0, z0, z0, x.A, x.m, x.c⟩)) := Lib.hid hst2.1
  have HBx2 := Lib.hid (HBx1.out.trans (hst2.2.1 _ hBQ))
  clear hst2
  have hSn := HS2.out
  refine takeY (i := 12) (some 62) (v := .pointer (some ⟨(X + 2), 28, none⟩)) rfl rfl (by kernel_rfl) (by kernel_rfl) (by kernel_rfl) (fun _ _ _ h => h) (by rfl) (fun w' hS => by go_simp) hSn ?_
  simp only [Act.put, List.setIfInBounds_toArray, List.set_cons_zero, List.set_cons_succ]
  clear hSn
  refine takeSt (i := 13) 28 (.tmp 62) (.tmp 57) (X + 2) 28 (.int .u32 (x.sq : Int)) #[.int .u32 (x.sq : Int)] (pdC (⟨x.kd, 0, z0, 0, 0, 0, z0, x.li, x.id, x.sq, 0, z0, z0, x.A, x.m, x.c⟩)) rfl rfl (by kernel_rfl) (by rfl) rfl rfl rfl rfl (by kernel_rfl) (by kernel_rfl) HQ2.out (Nat.le_of_ble_eq_true rfl) (by kernel_rfl) (fun w3' hst3 => ⟨PdT.far HS2.out hst3 hne, ?_⟩)
  have HS3 := Lib.hid (PdT.far HS2.out hst3 hne)
  have HQ3 : Hid (PdT 31 w3' (X + 2) (⟨x.kd, 0, z0, 0, 0, 0, z0, x.li, x.id, x.sq, 0, z0, z0, x.A, x.m, x.c⟩)) := Lib.hid hst3.1
  have HBx3 := Lib.hid (HBx2.out.trans (hst3.2.1 _ hBQ))
  clear hst3
  have hSn := HS3.out
  refine takeY (i := 14) (some 63) (v := .pointer (some ⟨(X + 2), 29, none⟩)) rfl rfl (by kernel_rfl) (by kernel_rfl) (by kernel_rfl) (fun _ _ _ h => h) (by rfl) (fun w' hS => by go_simp) hSn ?_
  simp only [Act.put, List.setIfInBounds_toArray, List.set_cons_zero, List.set_cons_succ]
  clear hSn
  refine takeSt (i := 15) 5 (.tmp 63) (.tmp 59) (X + 2) 29 (.int .u8 x.bi) #[.int .u8 x.bi] (pdC (⟨x.kd, 0, z0, 0, 0, 0, z0, x.li, x.id, x.sq, x.bi, z0, z0, x.A, x.m, x.c⟩)) rfl rfl (by kernel_rfl) (by rfl) rfl rfl rfl rfl (by kernel_rfl) (by kernel_rfl) HQ3.out (Nat.le_of_ble_eq_true rfl) (by kernel_rfl) (fun w4' hst4 => ⟨PdT.far HS3.out hst4 hne, ?_⟩)
  have HS4 := Lib.hid (PdT.far HS3.out hst4 hne)
  have HQ4 : Hid (PdT 31 w4' (X + 2) (⟨x.kd, 0, z0, 0, 0, 0, z0, x.li, x.id, x.sq, x.bi, z0, z0, x.A, x.m, x.c⟩)) := Lib.hid hst4.1
  have HBx4 := Lib.hid (HBx3.out.trans (hst4.2.1 _ hBQ))
  clear hst4
  refine wpAnyH_done (by kernel_rfl) ?_ _
  have HX' := HS4
  have HQ' := HQ4
  have HBx' := HBx4
  clear HX HQ HBx HQ0 HS0 HBx0 HS1 HQ1 HBx1 HS2 HQ2 HBx2 HS3 HQ3 HBx3 HS4 HQ4 HBx4
  have HR8 : Hid (PdT 31 w4' (X + 1) pd0) := Lib.hid (HR.out.below HBx'.out (by omega))
  have HB8 : Hid (Below w.heap.size w w4') := Lib.hid (HB1.out.trans (HBx'.out.mono (by rw [HXX.out]; omega)))
  go_wp2_with (first
    | (refine wpList_load_mid rfl 31 (.tmp 3) rfl (X + 2) 0 rfl (pdC (pl2 x)).toList _ HQ'.out.all Try.underlying31 rfl info_pdR ?_)
    | (refine wpList_st rfl 31 (.tmp 2) (.tmp 64) rfl (X + 1) 0 rfl (.agg (pdC (pl2 x))) (pdC (pl2 x)) rfl rfl info_pdR (pdC_one _) HR8.out (Nat.le_of_ble_eq_true rfl) (pd_all _ _) ?_; intro w9 hst9; refine Hid.out ?_))
  refine Lib.hid ?_
  have HR9 : Hid (PdT 31 w9 (X + 1) (pl2 x)) := Lib.hid hst9.1
  have HB9 := Lib.hid (HB8.out.trans (hst9.2.1 _ (by rw [HXX.out]; omega)))
  clear hst9
  go_wp2_with fail
  refine bodyPost_ret (results_R rfl _ w9 (X + 1) _ rfl HR9.out) rfl ⟨rfl, HB9.out⟩
set_option maxHeartbeats 4000000 in
set_option maxRecDepth 100000 in
theorem plain_4 (x : Pd) (h1 : ¬ (x.kd = 15 ∨ x.kd = 16 ∨ x.kd = 17)) (h2 : ¬ (x.kd = 18 ∨ x.kd = 20)) (h26 : 26 ≤ x.kd) (w : World) :
    Calls Try.prog 18 #[.agg (pdC x)] w fun e w' => e = .returned (.agg (pdC (pl4 x))) ∧ Below w.heap.size w w' := by
  have a0 := pdC_kd x
  have a46 := pdC_tl x
  have HH := Lib.hid (hello_no x.kd h1)
  have HH2 := Lib.hid (lsp_no x.kd h2)
  clear h1 h2
  obtain ⟨W1, hW1⟩ : ∃ W1, w.alloc (.cells (pdC x) 31) = W1 := ⟨_, rfl⟩
  obtain ⟨W2, hW2⟩ : ∃ W2, W1.alloc (.cells (pdC pd0) 31) = W2 := ⟨_, rfl⟩
  obtain ⟨W3, hW3⟩ : ∃ W3, W2.alloc (.cells (pdC pd0) 31) = W3 := ⟨_, rfl⟩
  have hs1 : W1.heap.size = w.heap.size + 1 := by rw [← hW1]; simp
  have hs2 : W2.heap.size = w.heap.size + 2 := by rw [← hW2]; simp [hs1]
  have hx1 : PdT 31 W1 w.heap.size x := by rw [← hW1]; exact heap_alloc_new w _
  have hx2 : PdT 31 W2 w.heap.size x := by rw [← hW2]; exact (Below.heap_alloc _ _ _ (by omega)).trans hx1
  have hx3 : PdT 31 W3 w.heap.size x := by rw [← hW3]; exact (Below.heap_alloc _ _ _ (by omega)).trans hx2
  have hr2 : PdT 31 W2 (w.heap.size + 1) pd0 := by rw [← hW2, ← hs1]; exact heap_alloc_new W1 _
  have hr3 : PdT 31 W3 (w.heap.size + 1) pd0 := by rw [← hW3]; exact (Below.heap_alloc _ _ _ (by omega)).trans hr2
  have hq3 : PdT 31 W3 (w.heap.size + 2) pd0 := by rw [← hW3, ← hs2]; exact heap_alloc_new W2 _
  have hb3 : Below w.heap.size w W3 := by rw [← hW3, ← hW2, ← hW1]; exact (((bself w).alloc (Nat.le_refl _) _).alloc (by simp) _).alloc (by simp; omega) _
  have HW1 := Lib.hid hW1
  have HW2 := Lib.hid hW2
  have HW3 := Lib.hid hW3
  have HS1 := Lib.hid hs1
  have HS2 := Lib.hid hs2
  have HX3 := Lib.hid hx3
  have HR3 := Lib.hid hr3
  have HQ3 := Lib.hid hq3
  have HB3 := Lib.hid hb3
  obtain ⟨X, hX⟩ : ∃ X, w.heap.size = X := ⟨_, rfl⟩
  have c0 : W2.cell? ⟨w.heap.size, 0, none⟩ = some (.int .u8 x.kd) := (hx2.cell 0).trans a0
  have c46 : W2.cell? ⟨w.heap.size, 46, none⟩ = some (.slice x.A x.m x.c) := (hx2.cell 46).trans a46
  clear hW1 hW2 hW3 hs1 hs2 hx1 hx2 hx3 hr2 hr3 hq3 hb3
  go_enter Try.func18, Try.ntmps18
  rw [hX] at c0 c46 HS1 HS2 HX3 HR3 HQ3
  have HXX := Lib.hid hX
  clear hX
  go_wp2_with (first
    | (refine wpList_v (op := ⟨some 2, _, _, _, _, _⟩) rfl _ (alloc_R' _ _ rfl _ W2 (X + 1) (by rw [HW1.out]; exact HS1.out) (by rw [HW1.out]; exact HW2.out)) ?_; rw [HXX.out])
    | (refine wpList_v rfl _ (build_K _ _ (.tmp 5) (.tmp 7) rfl x rfl rfl _) ?_)
    | (refine wpList_v (op := ⟨some 3, _, _, _, _, _⟩) rfl _ (alloc_R' _ _ rfl _ W3 (X + 2) HS2.out HW3.out) ?_)
    | (refine wpList_st rfl 31 (.tmp 3) (.tmp 8) rfl (X + 2) 0 rfl (.agg (pdC (pdK x))) (pdC (pdK x)) rfl rfl info_pdR (pdC_one _) HQ3.out (Nat.le_of_ble_eq_true rfl) (pd_all _ _) ?_; intro w1 hst1; refine Hid.out ?_))
  refine Lib.hid ?_
  have HX : Hid (PdT 31 w1 X x) := Lib.hid (PdT.far HX3.out hst1 (by omega))
  have HR : Hid (PdT 31 w1 (X + 1) pd0) := Lib.hid (PdT.far HR3.out hst1 (by omega))
  have HQ : Hid (PdT 31 w1 (X + 2) (pdK x)) := Lib.hid hst1.1
  have HBx : Hid (Below (X + 2) w1 w1) := Lib.hid (Below.refl _ _)
  have HB1 : Hid (Below w.heap.size w w1) := Lib.hid (HB3.out.trans (hst1.2.1 _ (by rw [HXX.out]; omega)))
  have hne : X ≠ X + 2 := by omega
  have hBQ : X + 2 ≤ X + 2 := Nat.le_refl _
  have c0 : w1.cell? ⟨X, 0, none⟩ = some (.int .u8 x.kd) := (HX.out.cell 0).trans a0
  clear hst1 HX3 HR3 HQ3 HB3
  go_wp2_with fail
  refine (HH.out _).mono ?_
  rintro e w2 ⟨rfl, rfl⟩
  go_wp2_with fail
  refine (HH2.out _).mono ?_
  rintro e w2 ⟨rfl, rfl⟩
  have c1 := HX.out.so
  have HC1 := Lib.hid c1
  clear c1
  go_wp2_with (first
    | (refine wpList_load_mid rfl 25 (.tmp 9) rfl X 2 rfl (ndC x.so).toList _ HC1.out Try.underlying25 rfl info_node ?_)
    | (refine wpList_st rfl 25 (.tmp 11) (.tmp 10) rfl (X + 2) 2 rfl (.agg (ndC x.so)) (ndC x.so) rfl rfl info_node (nd_all _) HQ.out (Nat.le_of_ble_eq_true rfl) (C' := pdC (pl4 x)) (by kernel_rfl) ?_; intro w3' hst; refine Hid.out ?_))
  refine Lib.hid ?_
  have HQ2 : Hid (PdT 31 w3' (X + 2) (pl4 x)) := Lib.hid hst.1
  have HX2 : Hid (PdT 31 w3' X x) := Lib.hid (HX.out.far hst hne)
  have HBx2 := Lib.hid (HBx.out.trans (hst.2.1 _ hBQ))
  have c0' : w3'.cell? ⟨X, 0, none⟩ = some (.int .u8 x.kd) := (HX2.out.cell 0).trans a0
  clear hst HQ HX HBx c0 HC1
  have HQ' := HQ2
  have HBx' := HBx2
  have HR8 : Hid (PdT 31 w3' (X + 1) pd0) := Lib.hid (HR.out.below HBx'.out (by omega))
  have HB8 : Hid (Below w.heap.size w w3') := Lib.hid (HB1.out.trans (HBx'.out.mono (by rw [HXX.out]; omega)))
  go_wp2_with (first
    | (refine wpList_load_mid rfl 31 (.tmp 3) rfl (X + 2) 0 rfl (pdC (pl4 x)).toList _ HQ'.out.all Try.underlying31 rfl info_pdR ?_)
    | (refine wpList_st rfl 31 (.tmp 2) (.tmp 64) rfl (X + 1) 0 rfl (.agg (pdC (pl4 x))) (pdC (pl4 x)) rfl rfl info_pdR (pdC_one _) HR8.out (Nat.le_of_ble_eq_true rfl) (pd_all _ _) ?_; intro w9 hst9; refine Hid.out ?_))
  refine Lib.hid ?_
  have HR9 : Hid (PdT 31 w9 (X + 1) (pl4 x)) := Lib.hid hst9.1
  have HB9 := Lib.hid (HB8.out.trans (hst9.2.1 _ (by rw [HXX.out]; omega)))
  clear hst9
  go_wp2_with fail
  refine bodyPost_ret (results_R rfl _ w9 (X + 1) _ rfl HR9.out) rfl ⟨rfl, HB9.out⟩
set_option maxHeartbeats 4000000 in
set_option maxRecDepth 100000 in
theorem plain_3 (x : Pd) (h1 : ¬ (x.kd = 15 ∨ x.kd = 16 ∨ x.kd = 17)) (h2 : ¬ (x.kd = 18 ∨ x.kd = 20)) (h26 : x.kd < 26) (w : World) :
    Calls Try.prog 18 #[.agg (pdC x)] w fun e w' => e = .returned (.agg (pdC (pl3 x))) ∧ Below w.heap.size w w' := by
  have a0 := pdC_kd x
  have a46 := pdC_tl x
  have HH := Lib.hid (hello_no x.kd h1)
  have HH2 := Lib.hid (lsp_no x.kd h2)
  clear h1 h2
  obtain ⟨W1, hW1⟩ : ∃ W1, w.alloc (.cells (pdC x) 31) = W1 := ⟨_, rfl⟩
  obtain ⟨W2, hW2⟩ : ∃ W2, W1.alloc (.cells (pdC pd0) 31) = W2 := ⟨_, rfl⟩
  obtain ⟨W3, hW3⟩ : ∃ W3, W2.alloc (.cells (pdC pd0) 31) = W3 := ⟨_, rfl⟩
  have hs1 : W1.heap.size = w.heap.size + 1 := by rw [← hW1]; simp
  have hs2 : W2.heap.size = w.heap.size + 2 := by rw [← hW2]; simp [hs1]
  have hx1 : PdT 31 W1 w.heap.size x := by rw [← hW1]; exact heap_alloc_new w _
  have hx2 : PdT 31 W2 w.heap.size x := by rw [← hW2]; exact (Below.heap_alloc _ _ _ (by omega)).trans hx1
  have hx3 : PdT 31 W3 w.heap.size x := by rw [← hW3]; exact (Below.heap_alloc _ _ _ (by omega)).trans hx2
  have hr2 : PdT 31 W2 (w.heap.size + 1) pd0 := by rw [← hW2, ← hs1]; exact heap_alloc_new W1 _
  have hr3 : PdT 31 W3 (w.heap.size + 1) pd0 := by rw [← hW3]; exact (Below.heap_alloc _ _ _ (by omega)).trans hr2
  have hq3 : PdT 31 W3 (w.heap.size + 2) pd0 := by rw [← hW3, ← hs2]; exact heap_alloc_new W2 _
  have hb3 : Below w.heap.size w W3 := by rw [← hW3, ← hW2, ← hW1]; exact (((bself w).alloc (Nat.le_refl _) _).alloc (by simp) _).alloc (by simp; omega) _
  have HW1 := Lib.hid hW1
  have HW2 := Lib.hid hW2
  have HW3 := Lib.hid hW3
  have HS1 := Lib.hid hs1
  have HS2 := Lib.hid hs2
  have HX3 := Lib.hid hx3
  have HR3 := Lib.hid hr3
  have HQ3 := Lib.hid hq3
  have HB3 := Lib.hid hb3
  obtain ⟨X, hX⟩ : ∃ X, w.heap.size = X := ⟨_, rfl⟩
  have c0 : W2.cell? ⟨w.heap.size, 0, none⟩ = some (.int .u8 x.kd) := (hx2.cell 0).trans a0
  have c46 : W2.cell? ⟨w.heap.size, 46, none⟩ = some (.slice x.A x.m x.c) := (hx2.cell 46).trans a46
  clear hW1 hW2 hW3 hs1 hs2 hx1 hx2 hx3 hr2 hr3 hq3 hb3
  go_enter Try.func18, Try.ntmps18
  rw [hX] at c0 c46 HS1 HS2 HX3 HR3 HQ3
  have HXX := Lib.hid hX
  clear hX
  go_wp2_with (first
    | (refine wpList_v (op := ⟨some 2, _, _, _, _, _⟩) rfl _ (alloc_R' _ _ rfl _ W2 (X + 1) (by rw [HW1.out]; exact HS1.out) (by rw [HW1.out]; exact HW2.out)) ?_; rw [HXX.out])
    | (refine wpList_v rfl _ (build_K _ _ (.tmp 5) (.tmp 7) rfl x rfl rfl _) ?_)
    | (refine wpList_v (op := ⟨some 3, _, _, _, _, _⟩) rfl _ (alloc_R' _ _ rfl _ W3 (X + 2) HS2.out HW3.out) ?_)
    | (refine wpList_st rfl 31 (.tmp 3) (.tmp 8) rfl (X + 2) 0 rfl (.agg (pdC (pdK x))) (pdC (pdK x)) rfl rfl info_pdR (pdC_one _) HQ3.out (Nat.le_of_ble_eq_true rfl) (pd_all _ _) ?_; intro w1 hst1; refine Hid.out ?_))
  refine Lib.hid ?_
  have HX : Hid (PdT 31 w1 X x) := Lib.hid (PdT.far HX3.out hst1 (by omega))
  have HR : Hid (PdT 31 w1 (X + 1) pd0) := Lib.hid (PdT.far HR3.out hst1 (by omega))
  have HQ : Hid (PdT 31 w1 (X + 2) (pdK x)) := Lib.hid hst1.1
  have HBx : Hid (Below (X + 2) w1 w1) := Lib.hid (Below.refl _ _)
  have HB1 : Hid (Below w.heap.size w w1) := Lib.hid (HB3.out.trans (hst1.2.1 _ (by rw [HXX.out]; omega)))
  have hne : X ≠ X + 2 := by omega
  have hBQ : X + 2 ≤ X + 2 := Nat.le_refl _
  have c0 : w1.cell? ⟨X, 0, none⟩ = some (.int .u8 x.kd) := (HX.out.cell 0).trans a0
  clear hst1 HX3 HR3 HQ3 HB3
  go_wp2_with fail
  refine (HH.out _).mono ?_
  rintro e w2 ⟨rfl, rfl⟩
  go_wp2_with fail
  refine (HH2.out _).mono ?_
  rintro e w2 ⟨rfl, rfl⟩
  have c1 := HX.out.so
  have HC1 := Lib.hid c1
  clear c1
  go_wp2_with (first
    | (refine wpList_load_mid rfl 25 (.tmp 9) rfl X 2 rfl (ndC x.so).toList _ HC1.out Try.underlying25 rfl info_node ?_)
    | (refine wpList_st rfl 25 (.tmp 11) (.tmp 10) rfl (X + 2) 2 rfl (.agg (ndC x.so)) (ndC x.so) rfl rfl info_node (nd_all _) HQ.out (Nat.le_of_ble_eq_true rfl) (C' := pdC (pl4 x)) (by kernel_rfl) ?_; intro w3' hst; refine Hid.out ?_))
  refine Lib.hid ?_
  have HQ2 : Hid (PdT 31 w3' (X + 2) (pl4 x)) := Lib.hid hst.1
  have HX2 : Hid (PdT 31 w3' X x) := Lib.hid (HX.out.far hst hne)
  have HBx2 := Lib.hid (HBx.out.trans (hst.2.1 _ hBQ))
  have c0' : w3'.cell? ⟨X, 0, none⟩ = some (.int .u8 x.kd) := (HX2.out.cell 0).trans a0
  clear hst HQ HX HBx c0 HC1
  have HQ' := HQ2
  have HBx' := HBx2
  go_wp2_with fail
  have HX := HX2
  have HQ := HQ'
  have HBx := HBx'
  clear HX2 HQ' HBx' HQ2 HBx2 c0'
  refine wp_region_held_drew (S := fun w' => PdT 31 w' X x) (by kernel_rfl) HX.out (fun hS0 => ?_)
  refine takeY (i := 0) (some 15) (v := .pointer (some ⟨X, 30, none⟩)) rfl rfl (by kernel_rfl) (by kernel_rfl) (by kernel_rfl) (fun _ _ _ h => h) (by rfl) (fun w' hS => by go_simp) hS0 ?_
  simp only [Act.put, List.setIfInBounds_toArray, List.set_cons_zero, List.set_cons_succ]
  refine takeL (i := 1) (some 16) 27 (.tmp 15) X 30 (idC x.st) _ rfl rfl (by kernel_rfl) (by kernel_rfl) (by kernel_rfl) (fun _ _ _ h => h) (by rfl) rfl rfl (fun w' hS => hS.st) Try.underlying27 rfl info_id hS0 ?_
  simp only [Act.put, List.setIfInBounds_toArray, List.set_cons_zero, List.set_cons_succ]
  refine takeY (i := 2) (some 17) (v := .pointer (some ⟨X, 38, none⟩)) rfl rfl (by kernel_rfl) (by kernel_rfl) (by kernel_rfl) (fun _ _ _ h => h) (by rfl) (fun w' hS => by go_simp) hS0 ?_
  simp only [Act.put, List.setIfInBounds_toArray, List.set_cons_zero, List.set_cons_succ]
  refine takeL (i := 3) (some 18) 27 (.tmp 17) X 38 (idC x.en) _ rfl rfl (by kernel_rfl) (by kernel_rfl) (by kernel_rfl) (fun _ _ _ h => h) (by rfl) rfl rfl (fun w' hS => hS.en) Try.underlying27 rfl info_id hS0 ?_
  simp only [Act.put, List.setIfInBounds_toArray, List.set_cons_zero, List.set_cons_succ]
  have HS0 := Lib.hid hS0
  have HQ0 := HQ
  have HBx0 := Lib.hid (HBx.out.drew)
  clear hS0
  have hSn := HS0.out
  refine takeY (i := 4) (some 19) (v := .pointer (some ⟨(X + 2), 30, none⟩)) rfl rfl (by kernel_rfl) (by kernel_rfl) (by kernel_rfl) (fun _ _ _ h => h) (by rfl) (fun w' hS => by go_simp) hSn ?_
  simp only [Act.put, List.setIfInBounds_toArray, List.set_cons_zero, List.set_cons_succ]
  clear hSn
  refine takeSt (i := 5) 27 (.tmp 19) (.tmp 16) (X + 2) 30 (.agg (idC x.st)) (idC x.st) (pdC (⟨x.kd, 0, x.so, 0, 0, 0, z0, 0, z0, 0, 0, x.st, z0, x.A, x.m, x.c⟩)) rfl rfl (by kernel_rfl) (by rfl) rfl rfl rfl rfl info_id (id_all _) HQ0.out (Nat.le_of_ble_eq_true rfl) (by kernel_rfl) (fun v1' hst1 => ⟨PdT.far HS0.out hst1 hne, ?_⟩)
  have HS1 := Lib.hid (PdT.far HS0.out hst1 hne)
  have HQ1 : Hid (PdT 31 v1' (X + 2) (⟨x.kd, 0, x.so, 0, 0, 0, z0, 0, z0, 0, 0, x.st, z0, x.A, x.m, x.c⟩)) := Lib.hid hst1.1
  have HBx1 := Lib.hid (HBx0.out.trans (hst1.2.1 _ hBQ))
  clear hst1
  have hSn := HS1.out
  refine takeY (i := 6) (some 20) (v := .pointer (some ⟨(X + 2), 38, none⟩)) rfl rfl (by kernel_rfl) (by kernel_rfl) (by kernel_rfl) (fun _ _ _ h => h) (by rfl) (fun w' hS => by go_simp) hSn ?_
  simp only [Act.put, List.setIfInBounds_toArray, List.set_cons_zero, List.set_cons_succ]
  clear hSn
  refine takeSt (i := 7) 27 (.tmp 20) (.tmp 18) (X + 2) 38 (.agg (idC x.en)) (idC x.en) (pdC (⟨x.kd, 0, x.so, 0, 0, 0, z0, 0, z0, 0, 0, x.st, x.en, x.A, x.m, x.c⟩)) rfl rfl (by kernel_rfl) (by rfl) rfl rfl rfl rfl info_id (id_all _) HQ1.out (Nat.le_of_ble_eq_true rfl) (by kernel_rfl) (fun v2' hst2 => ⟨PdT.far HS1.out hst2 hne, ?_⟩)
  have HS2 := Lib.hid (PdT.far HS1.out hst2 hne)
  have HQ2 : Hid (PdT 31 v2' (X + 2) (⟨x.kd, 0, x.so, 0, 0, 0, z0, 0, z0, 0, 0, x.st, x.en, x.A, x.m, x.c⟩)) := Lib.hid hst2.1
  have HBx2 := Lib.hid (HBx1.out.trans (hst2.2.1 _ hBQ))
  clear hst2
  refine wpAnyH_done (by kernel_rfl) ?_ _
  have HX' := HS2
  have HQ' := HQ2
  have HBx' := HBx2
  clear HX HQ HBx HQ0 HS0 HBx0 HS1 HQ1 HBx1 HS2 HQ2 HBx2
  have HR8 : Hid (PdT 31 v2' (X + 1) pd0) := Lib.hid (HR.out.below HBx'.out (by omega))
  have HB8 : Hid (Below w.heap.size w v2') := Lib.hid (HB1.out.trans (HBx'.out.mono (by rw [HXX.out]; omega)))
  go_wp2_with (first
    | (refine wpList_load_mid rfl 31 (.tmp 3) rfl (X + 2) 0 rfl (pdC (pl3 x)).toList _ HQ'.out.all Try.underlying31 rfl info_pdR ?_)
    | (refine wpList_st rfl 31 (.tmp 2) (.tmp 64) rfl (X + 1) 0 rfl (.agg (pdC (pl3 x))) (pdC (pl3 x)) rfl rfl info_pdR (pdC_one _) HR8.out (Nat.le_of_ble_eq_true rfl) (pd_all _ _) ?_; intro w9 hst9; refine Hid.out ?_))
  refine Lib.hid ?_
  have HR9 : Hid (PdT 31 w9 (X + 1) (pl3 x)) := Lib.hid hst9.1
  have HB9 := Lib.hid (HB8.out.trans (hst9.2.1 _ (by rw [HXX.out]; omega)))
  clear hst9
  go_wp2_with fail
  refine bodyPost_ret (results_R rfl _ w9 (X + 1) _ rfl HR9.out) rfl ⟨rfl, HB9.out⟩
end Go.Proofs.Ytigkmcbkckfhbaa
