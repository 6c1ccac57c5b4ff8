/- Texts of this claim put together; each theorem states its conditions. -/
import Derived.Test.YtccoicjmmeoggaaDoorGMacBackCard3
import Derived.Test.YtccoicjmmeoggaaDoorGMacBackCard4
import Derived.Laws.AppendOwnNone
import Derived.Deep.DeepCutAuto
import Derived.Deep.CutBlock
import Derived.Test.YtccoicjmmeoggaaDoorRows
import Derived.Test.YtccoicjmmeoggaaDoorGMacBackCard2
import Derived.Deep.Slices
import Derived.OpenShut
import Derived.ProofKit
import Derived.SizedLaws
import Derived.Deep.SlicePairs
import Derived.LoopN
/- The document's Plain: a packet with the fields alone that its kind has. Each theorem states its conditions. -/
namespace Go.Proofs.YtccoicjmmeoggaaDoor
open Go.RowKit
set_option linter.unusedVariables false

theorem alloc_R' (o : Oper) (e : Operand → Value) (ho : o.op = .alloc 42) (W W' : World) (n : Nat) (hn : W.heap.size = n) (hW : W.alloc (.cells (pdC pd0) 42) = W') : (execOp e o).run Tryd.prog W = .ok (.value (.pointer (some ⟨n, 0, none⟩))) W' := by
  subst hn hW
  exact alloc_R o e ho W
theorem hello_yes (k : Int) (h : k = 15 ∨ k = 16 ∨ k = 17) (w : World) : Calls Tryd.prog 50 #[.int .u8 k] w fun e w' => e = .returned (.bool true) ∧ w = w' := by
  rcases h with rfl | rfl | rfl <;>
  · go_enter Tryd.func50, Tryd.ntmps50
    go_wp2
    go_ret
    exact ⟨rfl, rfl⟩
theorem hello_no (k : Int) (h : ¬ (k = 15 ∨ k = 16 ∨ k = 17)) (w : World) : Calls Tryd.prog 50 #[.int .u8 k] w fun e w' => e = .returned (.bool false) ∧ w = w' := by
  have h1 : (k == 15) = false := by simp; omega
  have h2 : (k == 16) = false := by simp; omega
  have h3 : (k == 17) = false := by simp; omega
  clear h
  go_enter Tryd.func50, Tryd.ntmps50
  go_wp2
  go_ret
  exact ⟨rfl, rfl⟩
theorem lsp_yes (k : Int) (h : k = 18 ∨ k = 20) (w : World) : Calls Tryd.prog 26 #[.int .u8 k] w fun e w' => e = .returned (.bool true) ∧ w = w' := by
  rcases h with rfl | rfl <;>
  · go_enter Tryd.func26, Tryd.ntmps26
    go_wp2
    go_ret
    exact ⟨rfl, rfl⟩
theorem lsp_no (k : Int) (h : ¬ (k = 18 ∨ k = 20)) (w : World) : Calls Tryd.prog 26 #[.int .u8 k] w fun e w' => e = .returned (.bool false) ∧ w = w' := by
  have h1 : (k == 18) = false := by simp; omega
  have h2 : (k == 20) = false := by simp; omega
  clear h
  go_enter Tryd.func26, Tryd.ntmps26
  go_wp2
  go_ret
  exact ⟨rfl, rfl⟩
/-- Plain of the classes -/
def pl0 (x : Pd) : Pd := ⟨x.kd, x.ci, cutSys x.so, x.ho, x.nu, 0, z0, 0, z0, 0, 0, z0, z0, x.A, x.m, x.c⟩
def pl1 (x : Pd) : Pd := ⟨x.kd, x.ci, cutSys x.so, x.ho, 0, x.pr, x.la, 0, z0, 0, 0, z0, z0, x.A, x.m, x.c⟩
def pl2 (x : Pd) : Pd := ⟨x.kd, 0, z0, 0, 0, 0, z0, x.li, x.id, x.sq, x.bi, z0, z0, x.A, x.m, x.c⟩
def pl3 (x : Pd) : Pd := ⟨x.kd, 0, x.so, 0, 0, 0, z0, 0, z0, 0, 0, x.st, x.en, x.A, x.m, x.c⟩
def pl4 (x : Pd) : Pd := ⟨x.kd, 0, x.so, 0, 0, 0, z0, 0, z0, 0, 0, z0, z0, x.A, x.m, x.c⟩
set_option maxHeartbeats 4000000 in
set_option maxRecDepth 100000 in
theorem plain_0 (x : Pd) (hk : x.kd = 17) (w : World) :
    Calls Tryd.prog 25 #[.agg (pdC x)] w fun e w' => e = .returned (.agg (pdC (pl0 x))) ∧ Below w.heap.size w w' := by
  have a0 := pdC_kd x
  have a46 := pdC_tl x
  have HH := Lib.hid (hello_yes x.kd (.inr (.inr hk)))
  have h17 : (x.kd == 17) = true := by simpa using hk
  clear hk
  obtain ⟨W1, hW1⟩ : ∃ W1, w.alloc (.cells (pdC x) 42) = W1 := ⟨_, rfl⟩
  obtain ⟨W2, hW2⟩ : ∃ W2, W1.alloc (.cells (pdC pd0) 42) = W2 := ⟨_, rfl⟩
  obtain ⟨W3, hW3⟩ : ∃ W3, W2.alloc (.cells (pdC pd0) 42) = W3 := ⟨_, rfl⟩
  have hs1 : W1.heap.size = w.heap.size + 1 := by rw [← hW1]; simp
  have hs2 : W2.heap.size = w.heap.size + 2 := by rw [← hW2]; simp [hs1]
  have hx1 : PdT 42 W1 w.heap.size x := by rw [← hW1]; exact heap_alloc_new w _
  have hx2 : PdT 42 W2 w.heap.size x := by rw [← hW2]; exact (Below.heap_alloc _ _ _ (by omega)).trans hx1
  have hx3 : PdT 42 W3 w.heap.size x := by rw [← hW3]; exact (Below.heap_alloc _ _ _ (by omega)).trans hx2
  have hr2 : PdT 42 W2 (w.heap.size + 1) pd0 := by rw [← hW2, ← hs1]; exact heap_alloc_new W1 _
  have hr3 : PdT 42 W3 (w.heap.size + 1) pd0 := by rw [← hW3]; exact (Below.heap_alloc _ _ _ (by omega)).trans hr2
  have hq3 : PdT 42 W3 (w.heap.size + 2) pd0 := by rw [← hW3, ← hs2]; exact heap_alloc_new W2 _
  have hb3 : Below w.heap.size w W3 := by rw [← hW3, ← hW2, ← hW1]; exact (((bself w).alloc (Nat.le_refl _) _).alloc (by simp) _).alloc (by simp; omega) _
  have HW1 := Lib.hid hW1
  have HW2 := Lib.hid hW2
  have HW3 := Lib.hid hW3
  have HS1 := Lib.hid hs1
  have HS2 := Lib.hid hs2
  have HX3 := Lib.hid hx3
  have HR3 := Lib.hid hr3
  have HQ3 := Lib.hid hq3
  have HB3 := Lib.hid hb3
  obtain ⟨X, hX⟩ : ∃ X, w.heap.size = X := ⟨_, rfl⟩
  have c0 : W2.cell? ⟨w.heap.size, 0, none⟩ = some (.int .u8 x.kd) := (hx2.cell 0).trans a0
  have c46 : W2.cell? ⟨w.heap.size, 46, none⟩ = some (.slice x.A x.m x.c) := (hx2.cell 46).trans a46
  clear hW1 hW2 hW3 hs1 hs2 hx1 hx2 hx3 hr2 hr3 hq3 hb3
  go_enter Tryd.func25, Tryd.ntmps25
  rw [hX] at c0 c46 HS1 HS2 HX3 HR3 HQ3
  have HXX := Lib.hid hX
  clear hX
  go_wp2_with (first
    | (refine wpList_v (op := ⟨some 2, _, _, _, _, _⟩) rfl _ (alloc_R' _ _ rfl _ W2 (X + 1) (by rw [HW1.out]; exact HS1.out) (by rw [HW1.out]; exact HW2.out)) ?_; rw [HXX.out])
    | (refine wpList_v rfl _ (build_K _ _ (.tmp 5) (.tmp 7) rfl x rfl rfl _) ?_)
    | (refine wpList_v (op := ⟨some 3, _, _, _, _, _⟩) rfl _ (alloc_R' _ _ rfl _ W3 (X + 2) HS2.out HW3.out) ?_)
    | (refine wpList_st rfl 42 (.tmp 3) (.tmp 8) rfl (X + 2) 0 rfl (.agg (pdC (pdK x))) (pdC (pdK x)) rfl rfl info_pdR (pdC_one _) HQ3.out (Nat.le_of_ble_eq_true rfl) (pd_all _ _) ?_; intro w1 hst1; refine Hid.out ?_))
  refine Lib.hid ?_
  have HX : Hid (PdT 42 w1 X x) := Lib.hid (PdT.far HX3.out hst1 (by omega))
  have HR : Hid (PdT 42 w1 (X + 1) pd0) := Lib.hid (PdT.far HR3.out hst1 (by omega))
  have HQ : Hid (PdT 42 w1 (X + 2) (pdK x)) := Lib.hid hst1.1
  have HBx : Hid (Below (X + 2) w1 w1) := Lib.hid (Below.refl _ _)
  have HB1 : Hid (Below w.heap.size w w1) := Lib.hid (HB3.out.trans (hst1.2.1 _ (by rw [HXX.out]; omega)))
  have hne : X ≠ X + 2 := by omega
  have hBQ : X + 2 ≤ X + 2 := Nat.le_refl _
  have c0 : w1.cell? ⟨X, 0, none⟩ = some (.int .u8 x.kd) := (HX.out.cell 0).trans a0
  clear hst1 HX3 HR3 HQ3 HB3
  go_wp2_with fail
  refine (HH.out _).mono ?_
  rintro e w2 ⟨rfl, rfl⟩
  go_wp2_with fail
  refine wp_region_held_drew (S := fun w' => PdT 42 w' X x) (by kernel_rfl) HX.out (fun hS0 => ?_)
  refine takeY (i := 0) (some 25) (v := .pointer (some ⟨X, 1, none⟩)) rfl rfl (by kernel_rfl) (by kernel_rfl) (by kernel_rfl) (fun _ _ _ h => h) (by rfl) (fun w' hS => by go_simp) hS0 ?_
  simp only [Act.put, List.setIfInBounds_toArray, List.set_cons_zero, List.set_cons_succ]
  refine takeY (i := 1) (some 26) (v := .int .u8 x.ci) rfl rfl (by kernel_rfl) (by kernel_rfl) (by kernel_rfl) (fun _ _ _ h => h) (by rfl) (fun w' hS => by have c9 : w'.cell? ⟨X, 1, none⟩ = some (.int .u8 x.ci) := (hS.cell 1).trans rfl; clear hS; go_simp) hS0 ?_
  simp only [Act.put, List.setIfInBounds_toArray, List.set_cons_zero, List.set_cons_succ]
  refine takeY (i := 2) (some 27) (v := .pointer (some ⟨X, 2, none⟩)) rfl rfl (by kernel_rfl) (by kernel_rfl) (by kernel_rfl) (fun _ _ _ h => h) (by rfl) (fun w' hS => by go_simp) hS0 ?_
  simp only [Act.put, List.setIfInBounds_toArray, List.set_cons_zero, List.set_cons_succ]
  refine takeY (i := 3) (some 28) (v := .pointer (some ⟨X, 2, none⟩)) rfl rfl (by kernel_rfl) (by kernel_rfl) (by kernel_rfl) (fun _ _ _ h => h) (by rfl) (fun w' hS => by go_simp) hS0 ?_
  simp only [Act.put, List.setIfInBounds_toArray, List.set_cons_zero, List.set_cons_succ]
  refine takeL (i := 4) (some 29) 34 (.tmp 28) X 2 (syC x.so) _ rfl rfl (by kernel_rfl) (by kernel_rfl) (by kernel_rfl) (fun _ _ _ h => h) (by rfl) rfl rfl (fun w' hS => hS.sys) Tryd.underlying34 rfl info_sys hS0 ?_
  simp only [Act.put, List.setIfInBounds_toArray, List.set_cons_zero, List.set_cons_succ]
  refine takeY (i := 5) (some 30) (v := .pointer (some ⟨X, 9, none⟩)) rfl rfl (by kernel_rfl) (by kernel_rfl) (by kernel_rfl) (fun _ _ _ h => h) (by rfl) (fun w' hS => by go_simp) hS0 ?_
  simp only [Act.put, List.setIfInBounds_toArray, List.set_cons_zero, List.set_cons_succ]
  refine takeY (i := 6) (some 31) (v := .int .i64 x.ho) rfl rfl (by kernel_rfl) (by kernel_rfl) (by kernel_rfl) (fun _ _ _ h => h) (by rfl) (fun w' hS => by have c9 : w'.cell? ⟨X, 9, none⟩ = some (.int .i64 x.ho) := (hS.cell 9).trans rfl; clear hS; go_simp) hS0 ?_
  simp only [Act.put, List.setIfInBounds_toArray, List.set_cons_zero, List.set_cons_succ]
  have HS0 := Lib.hid hS0
  have HQ0 := HQ
  have HBx0 := Lib.hid (HBx.out.drew)
  clear hS0
  have hSn := HS0.out
  refine takeY (i := 7) (some 32) (v := .pointer (some ⟨(X + 2), 1, none⟩)) rfl rfl (by kernel_rfl) (by kernel_rfl) (by kernel_rfl) (fun _ _ _ h => h) (by rfl) (fun w' hS => by go_simp) hSn ?_
  simp only [Act.put, List.setIfInBounds_toArray, List.set_cons_zero, List.set_cons_succ]
  clear hSn
  refine takeSt (i := 8) 5 (.tmp 32) (.tmp 26) (X + 2) 1 (.int .u8 x.ci) #[.int .u8 x.ci] (pdC (⟨x.kd, x.ci, z0, 0, 0, 0, z0, 0, z0, 0, 0, z0, z0, x.A, x.m, x.c⟩)) rfl rfl (by kernel_rfl) (by rfl) rfl rfl rfl rfl (by kernel_rfl) (by kernel_rfl) HQ0.out (Nat.le_of_ble_eq_true rfl) (by kernel_rfl) (fun w1' hst1 => ⟨PdT.far HS0.out hst1 hne, ?_⟩)
  have HS1 := Lib.hid (PdT.far HS0.out hst1 hne)
  have HQ1 : Hid (PdT 42 w1' (X + 2) (⟨x.kd, x.ci, z0, 0, 0, 0, z0, 0, z0, 0, 0, z0, z0, x.A, x.m, x.c⟩)) := Lib.hid hst1.1
  have HBx1 := Lib.hid (HBx0.out.trans (hst1.2.1 _ hBQ))
  clear hst1
  have hSn := HS1.out
  refine takeY (i := 9) (some 33) (v := .pointer (some ⟨(X + 2), 2, none⟩)) rfl rfl (by kernel_rfl) (by kernel_rfl) (by kernel_rfl) (fun _ _ _ h => h) (by rfl) (fun w' hS => by go_simp) hSn ?_
  simp only [Act.put, List.setIfInBounds_toArray, List.set_cons_zero, List.set_cons_succ]
  refine takeY (i := 10) (some 34) (v := .pointer (some ⟨(X + 2), 2, none⟩)) rfl rfl (by kernel_rfl) (by kernel_rfl) (by kernel_rfl) (fun _ _ _ h => h) (by rfl) (fun w' hS => by go_simp) hSn ?_
  simp only [Act.put, List.setIfInBounds_toArray, List.set_cons_zero, List.set_cons_succ]
  clear hSn
  refine takeSt (i := 11) 34 (.tmp 34) (.tmp 29) (X + 2) 2 (.agg (syC x.so)) (syC x.so) (pdC (⟨x.kd, x.ci, cutSys x.so, 0, 0, 0, z0, 0, z0, 0, 0, z0, z0, x.A, x.m, x.c⟩)) rfl rfl (by kernel_rfl) (by rfl) rfl rfl rfl rfl info_sys (sy_one _) HQ1.out (Nat.le_of_ble_eq_true rfl) (by kernel_rfl) (fun w2' hst2 => ⟨PdT.far HS1.out hst2 hne, ?_⟩)
  have HS2 := Lib.hid (PdT.far HS1.out hst2 hne)
  have HQ2 : Hid (PdT 42 w2' (X + 2) (⟨x.kd, x.ci, cutSys x.so, 0, 0, 0, z0, 0, z0, 0, 0, z0, z0, x.A, x.m, x.c⟩)) := Lib.hid hst2.1
  have HBx2 := Lib.hid (HBx1.out.trans (hst2.2.1 _ hBQ))
  clear hst2
  have hSn := HS2.out
  refine takeY (i := 12) (some 35) (v := .pointer (some ⟨(X + 2), 9, none⟩)) rfl rfl (by kernel_rfl) (by kernel_rfl) (by kernel_rfl) (fun _ _ _ h => h) (by rfl) (fun w' hS => by go_simp) hSn ?_
  simp only [Act.put, List.setIfInBounds_toArray, List.set_cons_zero, List.set_cons_succ]
  clear hSn
  refine takeSt (i := 13) 3 (.tmp 35) (.tmp 31) (X + 2) 9 (.int .i64 x.ho) #[.int .i64 x.ho] (pdC (⟨x.kd, x.ci, cutSys x.so, x.ho, 0, 0, z0, 0, z0, 0, 0, z0, z0, x.A, x.m, x.c⟩)) rfl rfl (by kernel_rfl) (by rfl) rfl rfl rfl rfl (by kernel_rfl) (by kernel_rfl) HQ2.out (Nat.le_of_ble_eq_true rfl) (by kernel_rfl) (fun w3' hst3 => ⟨PdT.far HS2.out hst3 hne, ?_⟩)
  have HS3 := Lib.hid (PdT.far HS2.out hst3 hne)
  have HQ3 : Hid (PdT 42 w3' (X + 2) (⟨x.kd, x.ci, cutSys x.so, x.ho, 0, 0, z0, 0, z0, 0, 0, z0, z0, x.A, x.m, x.c⟩)) := Lib.hid hst3.1
  have HBx3 := Lib.hid (HBx2.out.trans (hst3.2.1 _ hBQ))
  clear hst3
  refine wpAnyH_done (by kernel_rfl) ?_ _
  have HX' := HS3
  have HQ' := HQ3
  have HBx' := HBx3
  clear HX HQ HBx HQ0 HS0 HBx0 HS1 HQ1 HBx1 HS2 HQ2 HBx2 HS3 HQ3 HBx3
  have c0' : w3'.cell? ⟨X, 0, none⟩ = some (.int .u8 x.kd) := (HX'.out.cell 0).trans a0
  have c10 : w3'.cell? ⟨X, 10, none⟩ = some (.int .u8 x.nu) := (HX'.out.cell 10).trans rfl
  go_wp2_with (refine wpList_st rfl 5 (.tmp 41) (.tmp 40) rfl (X + 2) 10 rfl (.int .u8 x.nu) #[.int .u8 x.nu] rfl rfl (by kernel_rfl) (by kernel_rfl) HQ'.out (Nat.le_of_ble_eq_true rfl) (C' := pdC (pl0 x)) (by kernel_rfl) ?_; intro w4' hst; refine Hid.out ?_)
  refine Lib.hid ?_
  have HQ2 : Hid (PdT 42 w4' (X + 2) (pl0 x)) := Lib.hid hst.1
  have HBx2 := Lib.hid (HBx'.out.trans (hst.2.1 _ hBQ))
  clear hst c0' c10 HQ' HX' HBx' c0
  have HQ' := HQ2
  have HBx' := HBx2
  have HR8 : Hid (PdT 42 w4' (X + 1) pd0) := Lib.hid (HR.out.below HBx'.out (by omega))
  have HB8 : Hid (Below w.heap.size w w4') := Lib.hid (HB1.out.trans (HBx'.out.mono (by rw [HXX.out]; omega)))
  go_wp2_with (first
    | (refine wpList_load_mid rfl 42 (.tmp 3) rfl (X + 2) 0 rfl (pdC (pl0 x)).toList _ HQ'.out.all Tryd.underlying42 rfl info_pdR ?_)
    | (refine wpList_st rfl 42 (.tmp 2) (.tmp 64) rfl (X + 1) 0 rfl (.agg (pdC (pl0 x))) (pdC (pl0 x)) rfl rfl info_pdR (pdC_one _) HR8.out (Nat.le_of_ble_eq_true rfl) (pd_all _ _) ?_; intro w9 hst9; refine Hid.out ?_))
  refine Lib.hid ?_
  have HR9 : Hid (PdT 42 w9 (X + 1) (pl0 x)) := Lib.hid hst9.1
  have HB9 := Lib.hid (HB8.out.trans (hst9.2.1 _ (by rw [HXX.out]; omega)))
  clear hst9
  go_wp2_with fail
  refine bodyPost_ret (results_R rfl _ w9 (X + 1) _ rfl HR9.out) rfl ⟨rfl, HB9.out⟩
set_option maxHeartbeats 4000000 in
set_option maxRecDepth 100000 in
theorem plain_1 (x : Pd) (hk : x.kd = 15 ∨ x.kd = 16) (w : World) :
    Calls Tryd.prog 25 #[.agg (pdC x)] w fun e w' => e = .returned (.agg (pdC (pl1 x))) ∧ Below w.heap.size w w' := by
  have a0 := pdC_kd x
  have a46 := pdC_tl x
  have HH := Lib.hid (hello_yes x.kd (by omega))
  have h17 : (x.kd == 17) = false := by simp; omega
  clear hk
  obtain ⟨W1, hW1⟩ : ∃ W1, w.alloc (.cells (pdC x) 42) = W1 := ⟨_, rfl⟩
  obtain ⟨W2, hW2⟩ : ∃ W2, W1.alloc (.cells (pdC pd0) 42) = W2 := ⟨_, rfl⟩
  obtain ⟨W3, hW3⟩ : ∃ W3, W2.alloc (.cells (pdC pd0) 42) = W3 := ⟨_, rfl⟩
  have hs1 : W1.heap.size = w.heap.size + 1 := by rw [← hW1]; simp
  have hs2 : W2.heap.size = w.heap.size + 2 := by rw [← hW2]; simp [hs1]
  have hx1 : PdT 42 W1 w.heap.size x := by rw [← hW1]; exact heap_alloc_new w _
  have hx2 : PdT 42 W2 w.heap.size x := by rw [← hW2]; exact (Below.heap_alloc _ _ _ (by omega)).trans hx1
  have hx3 : PdT 42 W3 w.heap.size x := by rw [← hW3]; exact (Below.heap_alloc _ _ _ (by omega)).trans hx2
  have hr2 : PdT 42 W2 (w.heap.size + 1) pd0 := by rw [← hW2, ← hs1]; exact heap_alloc_new W1 _
  have hr3 : PdT 42 W3 (w.heap.size + 1) pd0 := by rw [← hW3]; exact (Below.heap_alloc _ _ _ (by omega)).trans hr2
  have hq3 : PdT 42 W3 (w.heap.size + 2) pd0 := by rw [← hW3, ← hs2]; exact heap_alloc_new W2 _
  have hb3 : Below w.heap.size w W3 := by rw [← hW3, ← hW2, ← hW1]; exact (((bself w).alloc (Nat.le_refl _) _).alloc (by simp) _).alloc (by simp; omega) _
  have HW1 := Lib.hid hW1
  have HW2 := Lib.hid hW2
  have HW3 := Lib.hid hW3
  have HS1 := Lib.hid hs1
  have HS2 := Lib.hid hs2
  have HX3 := Lib.hid hx3
  have HR3 := Lib.hid hr3
  have HQ3 := Lib.hid hq3
  have HB3 := Lib.hid hb3
  obtain ⟨X, hX⟩ : ∃ X, w.heap.size = X := ⟨_, rfl⟩
  have c0 : W2.cell? ⟨w.heap.size, 0, none⟩ = some (.int .u8 x.kd) := (hx2.cell 0).trans a0
  have c46 : W2.cell? ⟨w.heap.size, 46, none⟩ = some (.slice x.A x.m x.c) := (hx2.cell 46).trans a46
  clear hW1 hW2 hW3 hs1 hs2 hx1 hx2 hx3 hr2 hr3 hq3 hb3
  go_enter Tryd.func25, Tryd.ntmps25
  rw [hX] at c0 c46 HS1 HS2 HX3 HR3 HQ3
  have HXX := Lib.hid hX
  clear hX
  go_wp2_with (first
    | (refine wpList_v (op := ⟨some 2, _, _, _, _, _⟩) rfl _ (alloc_R' _ _ rfl _ W2 (X + 1) (by rw [HW1.out]; exact HS1.out) (by rw [HW1.out]; exact HW2.out)) ?_; rw [HXX.out])
    | (refine wpList_v rfl _ (build_K _ _ (.tmp 5) (.tmp 7) rfl x rfl rfl _) ?_)
    | (refine wpList_v (op := ⟨some 3, _, _, _, _, _⟩) rfl _ (alloc_R' _ _ rfl _ W3 (X + 2) HS2.out HW3.out) ?_)
    | (refine wpList_st rfl 42 (.tmp 3) (.tmp 8) rfl (X + 2) 0 rfl (.agg (pdC (pdK x))) (pdC (pdK x)) rfl rfl info_pdR (pdC_one _) HQ3.out (Nat.le_of_ble_eq_true rfl) (pd_all _ _) ?_; intro w1 hst1; refine Hid.out ?_))
  refine Lib.hid ?_
  have HX : Hid (PdT 42 w1 X x) := Lib.hid (PdT.far HX3.out hst1 (by omega))
  have HR : Hid (PdT 42 w1 (X + 1) pd0) := Lib.hid (PdT.far HR3.out hst1 (by omega))
  have HQ : Hid (PdT 42 w1 (X + 2) (pdK x)) := Lib.hid hst1.1
  have HBx : Hid (Below (X + 2) w1 w1) := Lib.hid (Below.refl _ _)
  have HB1 : Hid (Below w.heap.size w w1) := Lib.hid (HB3.out.trans (hst1.2.1 _ (by rw [HXX.out]; omega)))
  have hne : X ≠ X + 2 := by omega
  have hBQ : X + 2 ≤ X + 2 := Nat.le_refl _
  have c0 : w1.cell? ⟨X, 0, none⟩ = some (.int .u8 x.kd) := (HX.out.cell 0).trans a0
  clear hst1 HX3 HR3 HQ3 HB3
  go_wp2_with fail
  refine (HH.out _).mono ?_
  rintro e w2 ⟨rfl, rfl⟩
  go_wp2_with fail
  refine wp_region_held_drew (S := fun w' => PdT 42 w' X x) (by kernel_rfl) HX.out (fun hS0 => ?_)
  refine takeY (i := 0) (some 25) (v := .pointer (some ⟨X, 1, none⟩)) rfl rfl (by kernel_rfl) (by kernel_rfl) (by kernel_rfl) (fun _ _ _ h => h) (by rfl) (fun w' hS => by go_simp) hS0 ?_
  simp only [Act.put, List.setIfInBounds_toArray, List.set_cons_zero, List.set_cons_succ]
  refine takeY (i := 1) (some 26) (v := .int .u8 x.ci) rfl rfl (by kernel_rfl) (by kernel_rfl) (by kernel_rfl) (fun _ _ _ h => h) (by rfl) (fun w' hS => by have c9 : w'.cell? ⟨X, 1, none⟩ = some (.int .u8 x.ci) := (hS.cell 1).trans rfl; clear hS; go_simp) hS0 ?_
  simp only [Act.put, List.setIfInBounds_toArray, List.set_cons_zero, List.set_cons_succ]
  refine takeY (i := 2) (some 27) (v := .pointer (some ⟨X, 2, none⟩)) rfl rfl (by kernel_rfl) (by kernel_rfl) (by kernel_rfl) (fun _ _ _ h => h) (by rfl) (fun w' hS => by go_simp) hS0 ?_
  simp only [Act.put, List.setIfInBounds_toArray, List.set_cons_zero, List.set_cons_succ]
  refine takeY (i := 3) (some 28) (v := .pointer (some ⟨X, 2, none⟩)) rfl rfl (by kernel_rfl) (by kernel_rfl) (by kernel_rfl) (fun _ _ _ h => h) (by rfl) (fun w' hS => by go_simp) hS0 ?_
  simp only [Act.put, List.setIfInBounds_toArray, List.set_cons_zero, List.set_cons_succ]
  refine takeL (i := 4) (some 29) 34 (.tmp 28) X 2 (syC x.so) _ rfl rfl (by kernel_rfl) (by kernel_rfl) (by kernel_rfl) (fun _ _ _ h => h) (by rfl) rfl rfl (fun w' hS => hS.sys) Tryd.underlying34 rfl info_sys hS0 ?_
  simp only [Act.put, List.setIfInBounds_toArray, List.set_cons_zero, List.set_cons_succ]
  refine takeY (i := 5) (some 30) (v := .pointer (some ⟨X, 9, none⟩)) rfl rfl (by kernel_rfl) (by kernel_rfl) (by kernel_rfl) (fun _ _ _ h => h) (by rfl) (fun w' hS => by go_simp) hS0 ?_
  simp only [Act.put, List.setIfInBounds_toArray, List.set_cons_zero, List.set_cons_succ]
  refine takeY (i := 6) (some 31) (v := .int .i64 x.ho) rfl rfl (by kernel_rfl) (by kernel_rfl) (by kernel_rfl) (fun _ _ _ h => h) (by rfl) (fun w' hS => by have c9 : w'.cell? ⟨X, 9, none⟩ = some (.int .i64 x.ho) := (hS.cell 9).trans rfl; clear hS; go_simp) hS0 ?_
  simp only [Act.put, List.setIfInBounds_toArray, List.set_cons_zero, List.set_cons_succ]
  have HS0 := Lib.hid hS0
  have HQ0 := HQ
  have HBx0 := Lib.hid (HBx.out.drew)
  clear hS0
  have hSn := HS0.out
  refine takeY (i := 7) (some 32) (v := .pointer (some ⟨(X + 2), 1, none⟩)) rfl rfl (by kernel_rfl) (by kernel_rfl) (by kernel_rfl) (fun _ _ _ h => h) (by rfl) (fun w' hS => by go_simp) hSn ?_
  simp only [Act.put, List.setIfInBounds_toArray, List.set_cons_zero, List.set_cons_succ]
  clear hSn
  refine takeSt (i := 8) 5 (.tmp 32) (.tmp 26) (X + 2) 1 (.int .u8 x.ci) #[.int .u8 x.ci] (pdC (⟨x.kd, x.ci, z0, 0, 0, 0, z0, 0, z0, 0, 0, z0, z0, x.A, x.m, x.c⟩)) rfl rfl (by kernel_rfl) (by rfl) rfl rfl rfl rfl (by kernel_rfl) (by kernel_rfl) HQ0.out (Nat.le_of_ble_eq_true rfl) (by kernel_rfl) (fun w1' hst1 => ⟨PdT.far HS0.out hst1 hne, ?_⟩)
  have HS1 := Lib.hid (PdT.far HS0.out hst1 hne)
  have HQ1 : Hid (PdT 42 w1' (X + 2) (⟨x.kd, x.ci, z0, 0, 0, 0, z0, 0, z0, 0, 0, z0, z0, x.A, x.m, x.c⟩)) := Lib.hid hst1.1
  have HBx1 := Lib.hid (HBx0.out.trans (hst1.2.1 _ hBQ))
  clear hst1
  have hSn := HS1.out
  refine takeY (i := 9) (some 33) (v := .pointer (some ⟨(X + 2), 2, none⟩)) rfl rfl (by kernel_rfl) (by kernel_rfl) (by kernel_rfl) (fun _ _ _ h => h) (by rfl) (fun w' hS => by go_simp) hSn ?_
  simp only [Act.put, List.setIfInBounds_toArray, List.set_cons_zero, List.set_cons_succ]
  refine takeY (i := 10) (some 34) (v := .pointer (some ⟨(X + 2), 2, none⟩)) rfl rfl (by kernel_rfl) (by kernel_rfl) (by kernel_rfl) (fun _ _ _ h => h) (by rfl) (fun w' hS => by go_simp) hSn ?_
  simp only [Act.put, List.setIfInBounds_toArray, List.set_cons_zero, List.set_cons_succ]
  clear hSn
  refine takeSt (i := 11) 34 (.tmp 34) (.tmp 29) (X + 2) 2 (.agg (syC x.so)) (syC x.so) (pdC (⟨x.kd, x.ci, cutSys x.so, 0, 0, 0, z0, 0, z0, 0, 0, z0, z0, x.A, x.m, x.c⟩)) rfl rfl (by kernel_rfl) (by rfl) rfl rfl rfl rfl info_sys (sy_one _) HQ1.out (Nat.le_of_ble_eq_true rfl) (by kernel_rfl) (fun w2' hst2 => ⟨PdT.far HS1.out hst2 hne, ?_⟩)
  have HS2 := Lib.hid (PdT.far HS1.out hst2 hne)
  have HQ2 : Hid (PdT 42 w2' (X + 2) (⟨x.kd, x.ci, cutSys x.so, 0, 0, 0, z0, 0, z0, 0, 0, z0, z0, x.A, x.m, x.c⟩)) := Lib.hid hst2.1
  have HBx2 := Lib.hid (HBx1.out.trans (hst2.2.1 _ hBQ))
  clear hst2
  have hSn := HS2.out
  refine takeY (i := 12) (some 35) (v := .pointer (some ⟨(X + 2), 9, none⟩)) rfl rfl (by kernel_rfl) (by kernel_rfl) (by kernel_rfl) (fun _ _ _ h => h) (by rfl) (fun w' hS => by go_simp) hSn ?_
  simp only [Act.put, List.setIfInBounds_toArray, List.set_cons_zero, List.set_cons_succ]
  clear hSn
  refine takeSt (i := 13) 3 (.tmp 35) (.tmp 31) (X + 2) 9 (.int .i64 x.ho) #[.int .i64 x.ho] (pdC (⟨x.kd, x.ci, cutSys x.so, x.ho, 0, 0, z0, 0, z0, 0, 0, z0, z0, x.A, x.m, x.c⟩)) rfl rfl (by kernel_rfl) (by rfl) rfl rfl rfl rfl (by kernel_rfl) (by kernel_rfl) HQ2.out (Nat.le_of_ble_eq_true rfl) (by kernel_rfl) (fun w3' hst3 => ⟨PdT.far HS2.out hst3 hne, ?_⟩)
  have HS3 := Lib.hid (PdT.far HS2.out hst3 hne)
  have HQ3 : Hid (PdT 42 w3' (X + 2) (⟨x.kd, x.ci, cutSys x.so, x.ho, 0, 0, z0, 0, z0, 0, 0, z0, z0, x.A, x.m, x.c⟩)) := Lib.hid hst3.1
  have HBx3 := Lib.hid (HBx2.out.trans (hst3.2.1 _ hBQ))
  clear hst3
  refine wpAnyH_done (by kernel_rfl) ?_ _
  have HX' := HS3
  have HQ' := HQ3
  have HBx' := HBx3
  clear HX HQ HBx HQ0 HS0 HBx0 HS1 HQ1 HBx1 HS2 HQ2 HBx2 HS3 HQ3 HBx3
  have c0' : w3'.cell? ⟨X, 0, none⟩ = some (.int .u8 x.kd) := (HX'.out.cell 0).trans a0
  clear c0
  go_wp2_with fail
  clear c0'
  have HX := HX'
  have HQ := HQ'
  have HBx := HBx'
  clear HX' HQ' HBx'
  refine wp_region_held_drew (S := fun w' => PdT 42 w' X x) (by kernel_rfl) HX.out (fun hS0 => ?_)
  refine takeY (i := 0) (some 42) (v := .pointer (some ⟨X, 11, none⟩)) rfl rfl (by kernel_rfl) (by kernel_rfl) (by kernel_rfl) (fun _ _ _ h => h) (by rfl) (fun w' hS => by go_simp) hS0 ?_
  simp only [Act.put, List.setIfInBounds_toArray, List.set_cons_zero, List.set_cons_succ]
  refine takeY (i := 1) (some 43) (v := .int .u8 x.pr) rfl rfl (by kernel_rfl) (by kernel_rfl) (by kernel_rfl) (fun _ _ _ h => h) (by rfl) (fun w' hS => by have c9 : w'.cell? ⟨X, 11, none⟩ = some (.int .u8 x.pr) := (hS.cell 11).trans rfl; clear hS; go_simp) hS0 ?_
  simp only [Act.put, List.setIfInBounds_toArray, List.set_cons_zero, List.set_cons_succ]
  refine takeY (i := 2) (some 44) (v := .pointer (some ⟨X, 12, none⟩)) rfl rfl (by kernel_rfl) (by kernel_rfl) (by kernel_rfl) (fun _ _ _ h => h) (by rfl) (fun w' hS => by go_simp) hS0 ?_
  simp only [Act.put, List.setIfInBounds_toArray, List.set_cons_zero, List.set_cons_succ]
  refine takeL (i := 3) (some 45) 36 (.tmp 44) X 12 (ndC x.la) _ rfl rfl (by kernel_rfl) (by kernel_rfl) (by kernel_rfl) (fun _ _ _ h => h) (by rfl) rfl rfl (fun w' hS => hS.la) Tryd.underlying36 rfl info_node hS0 ?_
  simp only [Act.put, List.setIfInBounds_toArray, List.set_cons_zero, List.set_cons_succ]
  have HS0 := Lib.hid hS0
  have HQ0 := HQ
  have HBx0 := Lib.hid (HBx.out.drew)
  clear hS0
  have hSn := HS0.out
  refine takeY (i := 4) (some 46) (v := .pointer (some ⟨(X + 2), 11, none⟩)) rfl rfl (by kernel_rfl) (by kernel_rfl) (by kernel_rfl) (fun _ _ _ h => h) (by rfl) (fun w' hS => by go_simp) hSn ?_
  simp only [Act.put, List.setIfInBounds_toArray, List.set_cons_zero, List.set_cons_succ]
  clear hSn
  refine takeSt (i := 5) 5 (.tmp 46) (.tmp 43) (X + 2) 11 (.int .u8 x.pr) #[.int .u8 x.pr] (pdC (⟨x.kd, x.ci, cutSys x.so, x.ho, 0, x.pr, z0, 0, z0, 0, 0, z0, z0, x.A, x.m, x.c⟩)) rfl rfl (by kernel_rfl) (by rfl) rfl rfl rfl rfl (by kernel_rfl) (by kernel_rfl) HQ0.out (Nat.le_of_ble_eq_true rfl) (by kernel_rfl) (fun v1' hst1 => ⟨PdT.far HS0.out hst1 hne, ?_⟩)
  have HS1 := Lib.hid (PdT.far HS0.out hst1 hne)
  have HQ1 : Hid (PdT 42 v1' (X + 2) (⟨x.kd, x.ci, cutSys x.so, x.ho, 0, x.pr, z0, 0, z0, 0, 0, z0, z0, x.A, x.m, x.c⟩)) := Lib.hid hst1.1
  have HBx1 := Lib.hid (HBx0.out.trans (hst1.2.1 _ hBQ))
  clear hst1
  have hSn := HS1.out
  refine takeY (i := 6) (some 47) (v := .pointer (some ⟨(X + 2), 12, none⟩)) rfl rfl (by kernel_rfl) (by kernel_rfl) (by kernel_rfl) (fun _ _ _ h => h) (by rfl) (fun w' hS => by go_simp) hSn ?_
  simp only [Act.put, List.setIfInBounds_toArray, List.set_cons_zero, List.set_cons_succ]
  clear hSn
  refine takeSt (i := 7) 36 (.tmp 47) (.tmp 45) (X + 2) 12 (.agg (ndC x.la)) (ndC x.la) (pdC (⟨x.kd, x.ci, cutSys x.so, x.ho, 0, x.pr, x.la, 0, z0, 0, 0, z0, z0, x.A, x.m, x.c⟩)) rfl rfl (by kernel_rfl) (by rfl) rfl rfl rfl rfl info_node (nd_all _) HQ1.out (Nat.le_of_ble_eq_true rfl) (by kernel_rfl) (fun v2' hst2 => ⟨PdT.far HS1.out hst2 hne, ?_⟩)
  have HS2 := Lib.hid (PdT.far HS1.out hst2 hne)
  have HQ2 : Hid (PdT 42 v2' (X + 2) (⟨x.kd, x.ci, cutSys x.so, x.ho, 0, x.pr, x.la, 0, z0, 0, 0, z0, z0, x.A, x.m, x.c⟩)) := Lib.hid hst2.1
  have HBx2 := Lib.hid (HBx1.out.trans (hst2.2.1 _ hBQ))
  clear hst2
  refine wpAnyH_done (by kernel_rfl) ?_ _
  have HX' := HS2
  have HQ' := HQ2
  have HBx' := HBx2
  clear HX HQ HBx HQ0 HS0 HBx0 HS1 HQ1 HBx1 HS2 HQ2 HBx2
  have HR8 : Hid (PdT 42 v2' (X + 1) pd0) := Lib.hid (HR.out.below HBx'.out (by omega))
  have HB8 : Hid (Below w.heap.size w v2') := Lib.hid (HB1.out.trans (HBx'.out.mono (by rw [HXX.out]; omega)))
  go_wp2_with (first
    | (refine wpList_load_mid rfl 42 (.tmp 3) rfl (X + 2) 0 rfl (pdC (pl1 x)).toList _ HQ'.out.all Tryd.underlying42 rfl info_pdR ?_)
    | (refine wpList_st rfl 42 (.tmp 2) (.tmp 64) rfl (X + 1) 0 rfl (.agg (pdC (pl1 x))) (pdC (pl1 x)) rfl rfl info_pdR (pdC_one _) HR8.out (Nat.le_of_ble_eq_true rfl) (pd_all _ _) ?_; intro w9 hst9; refine Hid.out ?_))
  refine Lib.hid ?_
  have HR9 : Hid (PdT 42 w9 (X + 1) (pl1 x)) := Lib.hid hst9.1
  have HB9 := Lib.hid (HB8.out.trans (hst9.2.1 _ (by rw [HXX.out]; omega)))
  clear hst9
  go_wp2_with fail
  refine bodyPost_ret (results_R rfl _ w9 (X + 1) _ rfl HR9.out) rfl ⟨rfl, HB9.out⟩
set_option maxHeartbeats 4000000 in
set_option maxRecDepth 100000 in
theorem plain_2 (x : Pd) (hk : x.kd = 18 ∨ x.kd = 20) (w : World) :
    Calls Tryd.prog 25 #[.agg (pdC x)] w fun e w' => e = .returned (.agg (pdC (pl2 x))) ∧ Below w.heap.size w w' := by
  have a0 := pdC_kd x
  have a46 := pdC_tl x
  have HH := Lib.hid (hello_no x.kd (by omega))
  have HH2 := Lib.hid (lsp_yes x.kd hk)
  clear hk
  obtain ⟨W1, hW1⟩ : ∃ W1, w.alloc (.cells (pdC x) 42) = W1 := ⟨_, rfl⟩
  obtain ⟨W2, hW2⟩ : ∃ W2, W1.alloc (.cells (pdC pd0) 42) = W2 := ⟨_, rfl⟩
  obtain ⟨W3, hW3⟩ : ∃ W3, W2.alloc (.cells (pdC pd0) 42) = W3 := ⟨_, rfl⟩
  have hs1 : W1.heap.size = w.heap.size + 1 := by rw [← hW1]; simp
  have hs2 : W2.heap.size = w.heap.size + 2 := by rw [← hW2]; simp [hs1]
  have hx1 : PdT 42 W1 w.heap.size x := by rw [← hW1]; exact heap_alloc_new w _
  have hx2 : PdT 42 W2 w.heap.size x := by rw [← hW2]; exact (Below.heap_alloc _ _ _ (by omega)).trans hx1
  have hx3 : PdT 42 W3 w.heap.size x := by rw [← hW3]; exact (Below.heap_alloc _ _ _ (by omega)).trans hx2
  have hr2 : PdT 42 W2 (w.heap.size + 1) pd0 := by rw [← hW2, ← hs1]; exact heap_alloc_new W1 _
  have hr3 : PdT 42 W3 (w.heap.size + 1) pd0 := by rw [← hW3]; exact (Below.heap_alloc _ _ _ (by omega)).trans hr2
  have hq3 : PdT 42 W3 (w.heap.size + 2) pd0 := by rw [← hW3, ← hs2]; exact heap_alloc_new W2 _
  have hb3 : Below w.heap.size w W3 := by rw [← hW3, ← hW2, ← hW1]; exact (((bself w).alloc (Nat.le_refl _) _).alloc (by simp) _).alloc (by simp; omega) _
  have HW1 := Lib.hid hW1
  have HW2 := Lib.hid hW2
  have HW3 := Lib.hid hW3
  have HS1 := Lib.hid hs1
  have HS2 := Lib.hid hs2
  have HX3 := Lib.hid hx3
  have HR3 := Lib.hid hr3
  have HQ3 := Lib.hid hq3
  have HB3 := Lib.hid hb3
  obtain ⟨X, hX⟩ : ∃ X, w.heap.size = X := ⟨_, rfl⟩
  have c0 : W2.cell? ⟨w.heap.size, 0, none⟩ = some (.int .u8 x.kd) := (hx2.cell 0).trans a0
  have c46 : W2.cell? ⟨w.heap.size, 46, none⟩ = some (.slice x.A x.m x.c) := (hx2.cell 46).trans a46
  clear hW1 hW2 hW3 hs1 hs2 hx1 hx2 hx3 hr2 hr3 hq3 hb3
  go_enter Tryd.func25, Tryd.ntmps25
  rw [hX] at c0 c46 HS1 HS2 HX3 HR3 HQ3
  have HXX := Lib.hid hX
  clear hX
  go_wp2_with (first
    | (refine wpList_v (op := ⟨some 2, _, _, _, _, _⟩) rfl _ (alloc_R' _ _ rfl _ W2 (X + 1) (by rw [HW1.out]; exact HS1.out) (by rw [HW1.out]; exact HW2.out)) ?_; rw [HXX.out])
    | (refine wpList_v rfl _ (build_K _ _ (.tmp 5) (.tmp 7) rfl x rfl rfl _) ?_)
    | (refine wpList_v (op := ⟨some 3, _, _, _, _, _⟩) rfl _ (alloc_R' _ _ rfl _ W3 (X + 2) HS2.out HW3.out) ?_)
    | (refine wpList_st rfl 42 (.tmp 3) (.tmp 8) rfl (X + 2) 0 rfl (.agg (pdC (pdK x))) (pdC (pdK x)) rfl rfl info_pdR (pdC_one _) HQ3.out (Nat.le_of_ble_eq_true rfl) (pd_all _ _) ?_; intro w1 hst1; refine Hid.out ?_))
  refine Lib.hid ?_
  have HX : Hid (PdT 42 w1 X x) := Lib.hid (PdT.far HX3.out hst1 (by omega))
  have HR : Hid (PdT 42 w1 (X + 1) pd0) := Lib.hid (PdT.far HR3.out hst1 (by omega))
  have HQ : Hid (PdT 42 w1 (X + 2) (pdK x)) := Lib.hid hst1.1
  have HBx : Hid (Below (X + 2) w1 w1) := Lib.hid (Below.refl _ _)
  have HB1 : Hid (Below w.heap.size w w1) := Lib.hid (HB3.out.trans (hst1.2.1 _ (by rw [HXX.out]; omega)))
  have hne : X ≠ X + 2 := by omega
  have hBQ : X + 2 ≤ X + 2 := Nat.le_refl _
  have c0 : w1.cell? ⟨X, 0, none⟩ = some (.int .u8 x.kd) := (HX.out.cell 0).trans a0
  clear hst1 HX3 HR3 HQ3 HB3
  go_wp2_with fail
  refine (HH.out _).mono ?_
  rintro e w2 ⟨rfl, rfl⟩
  go_wp2_with fail
  refine (HH2.out _).mono ?_
  rintro e w2 ⟨rfl, rfl⟩
  go_wp2_with fail
  refine wp_region_held_drew (S := fun w' => PdT 42 w' X x) (by kernel_rfl) HX.out (fun hS0 => ?_)
  refine takeY (i := 0) (some 52) (v := .pointer (some ⟨X, 19, none⟩)) rfl rfl (by kernel_rfl) (by kernel_rfl) (by kernel_rfl) (fun _ _ _ h => h) (by rfl) (fun w' hS => by go_simp) hS0 ?_
  simp only [Act.put, List.setIfInBounds_toArray, List.set_cons_zero, List.set_cons_succ]
  refine takeY (i := 1) (some 53) (v := .int .i64 x.li) rfl rfl (by kernel_rfl) (by kernel_rfl) (by kernel_rfl) (fun _ _ _ h => h) (by rfl) (fun w' hS => by have c9 : w'.cell? ⟨X, 19, none⟩ = some (.int .i64 x.li) := (hS.cell 19).trans rfl; clear hS; go_simp) hS0 ?_
  simp only [Act.put, List.setIfInBounds_toArray, List.set_cons_zero, List.set_cons_succ]
  refine takeY (i := 2) (some 54) (v := .pointer (some ⟨X, 20, none⟩)) rfl rfl (by kernel_rfl) (by kernel_rfl) (by kernel_rfl) (fun _ _ _ h => h) (by rfl) (fun w' hS => by go_simp) hS0 ?_
  simp only [Act.put, List.setIfInBounds_toArray, List.set_cons_zero, List.set_cons_succ]
  refine takeL (i := 3) (some 55) 38 (.tmp 54) X 20 (idC x.id) _ rfl rfl (by kernel_rfl) (by kernel_rfl) (by kernel_rfl) (fun _ _ _ h => h) (by rfl) rfl rfl (fun w' hS => hS.id) Tryd.underlying38 rfl info_id hS0 ?_
  simp only [Act.put, List.setIfInBounds_toArray, List.set_cons_zero, List.set_cons_succ]
  refine takeY (i := 4) (some 56) (v := .pointer (some ⟨X, 28, none⟩)) rfl rfl (by kernel_rfl) (by kernel_rfl) (by kernel_rfl) (fun _ _ _ h => h) (by rfl) (fun w' hS => by go_simp) hS0 ?_
  simp only [Act.put, List.setIfInBounds_toArray, List.set_cons_zero, List.set_cons_succ]
  refine takeY (i := 5) (some 57) (v := .int .u32 (x.sq : Int)) rfl rfl (by kernel_rfl) (by kernel_rfl) (by kernel_rfl) (fun _ _ _ h => h) (by rfl) (fun w' hS => by have c9 : w'.cell? ⟨X, 28, none⟩ = some (.int .u32 (x.sq : Int)) := (hS.cell 28).trans rfl; clear hS; go_simp) hS0 ?_
  simp only [Act.put, List.setIfInBounds_toArray, List.set_cons_zero, List.set_cons_succ]
  refine takeY (i := 6) (some 58) (v := .pointer (some ⟨X, 29, none⟩)) rfl rfl (by kernel_rfl) (by kernel_rfl) (by kernel_rfl) (fun _ _ _ h => h) (by rfl) (fun w' hS => by go_simp) hS0 ?_
  simp only [Act.put, List.setIfInBounds_toArray, List.set_cons_zero, List.set_cons_succ]
  refine takeY (i := 7) (some 59) (v := .int .u8 x.bi) rfl rfl (by kernel_rfl) (by kernel_rfl) (by kernel_rfl) (fun _ _ _ h => h) (by rfl) (fun w' hS => by have c9 : w'.cell? ⟨X, 29, none⟩ = some (.int .u8 x.bi) := (hS.cell 29).trans rfl; clear hS; go_simp) hS0 ?_
  simp only [Act.put, List.setIfInBounds_toArray, List.set_cons_zero, List.set_cons_succ]
  have HS0 := Lib.hid hS0
  have HQ0 := HQ
  have HBx0 := Lib.hid (HBx.out.drew)
  clear hS0
  have hSn := HS0.out
  refine takeY (i := 8) (some 60) (v := .pointer (some ⟨(X + 2), 19, none⟩)) rfl rfl (by kernel_rfl) (by kernel_rfl) (by kernel_rfl) (fun _ _ _ h => h) (by rfl) (fun w' hS => by go_simp) hSn ?_
  simp only [Act.put, List.setIfInBounds_toArray, List.set_cons_zero, List.set_cons_succ]
  clear hSn
  refine takeSt (i := 9) 3 (.tmp 60) (.tmp 53) (X + 2) 19 (.int .i64 x.li) #[.int .i64 x.li] (pdC (⟨x.kd, 0, z0, 0, 0, 0, z0, x.li, z0, 0, 0, z0, z0, x.A, x.m, x.c⟩)) rfl rfl (by kernel_rfl) (by rfl) rfl rfl rfl rfl (by kernel_rfl) (by kernel_rfl) HQ0.out (Nat.le_of_ble_eq_true rfl) (by kernel_rfl) (fun w1' hst1 => ⟨PdT.far HS0.out hst1 hne, ?_⟩)
  have HS1 := Lib.hid (PdT.far HS0.out hst1 hne)
  have HQ1 : Hid (PdT 42 w1' (X + 2) (⟨x.kd, 0, z0, 0, 0, 0, z0, x.li, z0, 0, 0, z0, z0, x.A, x.m, x.c⟩)) := Lib.hid hst1.1
  have HBx1 := Lib.hid (HBx0.out.trans (hst1.2.1 _ hBQ))
  clear hst1
  have hSn := HS1.out
  refine takeY (i := 10) (some 61) (v := .pointer (some ⟨(X + 2), 20, none⟩)) rfl rfl (by kernel_rfl) (by kernel_rfl) (by kernel_rfl) (fun _ _ _ h => h) (by rfl) (fun w' hS => by go_simp) hSn ?_
  simp only [Act.put, List.setIfInBounds_toArray, List.set_cons_zero, List.set_cons_succ]
  clear hSn
  refine takeSt (i := 11) 38 (.tmp 61) (.tmp 55) (X + 2) 20 (.agg (idC x.id)) (idC x.id) (pdC (⟨x.kd, 0, z0, 0, 0, 0, z0, x.li, x.id, 0, 0, z0, z0, x.A, x.m, x.c⟩)) rfl rfl (by kernel_rfl) (by rfl) rfl rfl rfl rfl info_id (id_all _) HQ1.out (Nat.le_of_ble_eq_true rfl) (by kernel_rfl) (fun w2' hst2 => ⟨PdT.far HS1.out hst2 hne, ?_⟩)
  have HS2 := Lib.hid (PdT.far HS1.out hst2 hne)
  have HQ2 : Hid (PdT 42 w2' (X + 2) (⟨x.kd, 0, z0, 0, 0, 0, z0, x.li, x.id, 0, 0, z0, z0, x.A, x.m, x.c⟩)) := Lib.hid hst2.1
  have HBx2 := Lib.hid (HBx1.out.trans (hst2.2.1 _ hBQ))
  clear hst2
  have hSn := HS2.out
  refine takeY (i := 12) (some 62) (v := .pointer (some ⟨(X + 2), 28, none⟩)) rfl rfl (by kernel_rfl) (by kernel_rfl) (by kernel_rfl) (fun _ _ _ h => h) (by rfl) (fun w' hS => by go_simp) hSn ?_
  simp only [Act.put, List.setIfInBounds_toArray, List.set_cons_zero, List.set_cons_succ]
  clear hSn
  refine takeSt (i := 13) 39 (.tmp 62) (.tmp 57) (X + 2) 28 (.int .u32 (x.sq : Int)) #[.int .u32 (x.sq : Int)] (pdC (⟨x.kd, 0, z0, 0, 0, 0, z0, x.li, x.id, x.sq, 0, z0, z0, x.A, x.m, x.c⟩)) rfl rfl (by kernel_rfl) (by rfl) rfl rfl rfl rfl (by kernel_rfl) (by kernel_rfl) HQ2.out (Nat.le_of_ble_eq_true rfl) (by kernel_rfl) (fun w3' hst3 => ⟨PdT.far HS2.out hst3 hne, ?_⟩)
  have HS3 := Lib.hid (PdT.far HS2.out hst3 hne)
  have HQ3 : Hid (PdT 42 w3' (X + 2) (⟨x.kd, 0, z0, 0, 0, 0, z0, x.li, x.id, x.sq, 0, z0, z0, x.A, x.m, x.c⟩)) := Lib.hid hst3.1
  have HBx3 := Lib.hid (HBx2.out.trans (hst3.2.1 _ hBQ))
  clear hst3
  have hSn := HS3.out
  refine takeY (i := 14) (some 63) (v := .pointer (some ⟨(X + 2), 29, none⟩)) rfl rfl (by kernel_rfl) (by kernel_rfl) (by kernel_rfl) (fun _ _ _ h => h) (by rfl) (fun w' hS => by go_simp) hSn ?_
  simp only [Act.put, List.setIfInBounds_toArray, List.set_cons_zero, List.set_cons_succ]
  clear hSn
  refine takeSt (i := 15) 5 (.tmp 63) (.tmp 59) (X + 2) 29 (.int .u8 x.bi) #[.int .u8 x.bi] (pdC (⟨x.kd, 0, z0, 0, 0, 0, z0, x.li, x.id, x.sq, x.bi, z0, z0, x.A, x.m, x.c⟩)) rfl rfl (by kernel_rfl) (by rfl) rfl rfl rfl rfl (by kernel_rfl) (by kernel_rfl) HQ3.out (Nat.le_of_ble_eq_true rfl) (by kernel_rfl) (fun w4' hst4 => ⟨PdT.far HS3.out hst4 hne, ?_⟩)
  have HS4 := Lib.hid (PdT.far HS3.out hst4 hne)
  have HQ4 : Hid (PdT 42 w4' (X + 2) (⟨x.kd, 0, z0, 0, 0, 0, z0, x.li, x.id, x.sq, x.bi, z0, z0, x.A, x.m, x.c⟩)) := Lib.hid hst4.1
  have HBx4 := Lib.hid (HBx3.out.trans (hst4.2.1 _ hBQ))
  clear hst4
  refine wpAnyH_done (by kernel_rfl) ?_ _
  have HX' := HS4
  have HQ' := HQ4
  have HBx' := HBx4
  clear HX HQ HBx HQ0 HS0 HBx0 HS1 HQ1 HBx1 HS2 HQ2 HBx2 HS3 HQ3 HBx3 HS4 HQ4 HBx4
  have HR8 : Hid (PdT 42 w4' (X + 1) pd0) := Lib.hid (HR.out.below HBx'.out (by omega))
  have HB8 : Hid (Below w.heap.size w w4') := Lib.hid (HB1.out.trans (HBx'.out.mono (by rw [HXX.out]; omega)))
  go_wp2_with (first
    | (refine wpList_load_mid rfl 42 (.tmp 3) rfl (X + 2) 0 rfl (pdC (pl2 x)).toList _ HQ'.out.all Tryd.underlying42 rfl info_pdR ?_)
    | (refine wpList_st rfl 42 (.tmp 2) (.tmp 64) rfl (X + 1) 0 rfl (.agg (pdC (pl2 x))) (pdC (pl2 x)) rfl rfl info_pdR (pdC_one _) HR8.out (Nat.le_of_ble_eq_true rfl) (pd_all _ _) ?_; intro w9 hst9; refine Hid.out ?_))
  refine Lib.hid ?_
  have HR9 : Hid (PdT 42 w9 (X + 1) (pl2 x)) := Lib.hid hst9.1
  have HB9 := Lib.hid (HB8.out.trans (hst9.2.1 _ (by rw [HXX.out]; omega)))
  clear hst9
  go_wp2_with fail
  refine bodyPost_ret (results_R rfl _ w9 (X + 1) _ rfl HR9.out) rfl ⟨rfl, HB9.out⟩
set_option maxHeartbeats 4000000 in
set_option maxRecDepth 100000 in
theorem plain_4 (x : Pd) (h1 : ¬ (x.kd = 15 ∨ x.kd = 16 ∨ x.kd = 17)) (h2 : ¬ (x.kd = 18 ∨ x.kd = 20)) (h26 : 26 ≤ x.kd) (w : World) :
    Calls Tryd.prog 25 #[.agg (pdC x)] w fun e w' => e = .returned (.agg (pdC (pl4 x))) ∧ Below w.heap.size w w' := by
  have a0 := pdC_kd x
  have a46 := pdC_tl x
  have HH := Lib.hid (hello_no x.kd h1)
  have HH2 := Lib.hid (lsp_no x.kd h2)
  clear h1 h2
  obtain ⟨W1, hW1⟩ : ∃ W1, w.alloc (.cells (pdC x) 42) = W1 := ⟨_, rfl⟩
  obtain ⟨W2, hW2⟩ : ∃ W2, W1.alloc (.cells (pdC pd0) 42) = W2 := ⟨_, rfl⟩
  obtain ⟨W3, hW3⟩ : ∃ W3, W2.alloc (.cells (pdC pd0) 42) = W3 := ⟨_, rfl⟩
  have hs1 : W1.heap.size = w.heap.size + 1 := by rw [← hW1]; simp
  have hs2 : W2.heap.size = w.heap.size + 2 := by rw [← hW2]; simp [hs1]
  have hx1 : PdT 42 W1 w.heap.size x := by rw [← hW1]; exact heap_alloc_new w _
  have hx2 : PdT 42 W2 w.heap.size x := by rw [← hW2]; exact (Below.heap_alloc _ _ _ (by omega)).trans hx1
  have hx3 : PdT 42 W3 w.heap.size x := by rw [← hW3]; exact (Below.heap_alloc _ _ _ (by omega)).trans hx2
  have hr2 : PdT 42 W2 (w.heap.size + 1) pd0 := by rw [← hW2, ← hs1]; exact heap_alloc_new W1 _
  have hr3 : PdT 42 W3 (w.heap.size + 1) pd0 := by rw [← hW3]; exact (Below.heap_alloc _ _ _ (by omega)).trans hr2
  have hq3 : PdT 42 W3 (w.heap.size + 2) pd0 := by rw [← hW3, ← hs2]; exact heap_alloc_new W2 _
  have hb3 : Below w.heap.size w W3 := by rw [← hW3, ← hW2, ← hW1]; exact (((bself w).alloc (Nat.le_refl _) _).alloc (by simp) _).alloc (by simp; omega) _
  have HW1 := Lib.hid hW1
  have HW2 := Lib.hid hW2
  have HW3 := Lib.hid hW3
  have HS1 := Lib.hid hs1
  have HS2 := Lib.hid hs2
  have HX3 := Lib.hid hx3
  have HR3 := Lib.hid hr3
  have HQ3 := Lib.hid hq3
  have HB3 := Lib.hid hb3
  obtain ⟨X, hX⟩ : ∃ X, w.heap.size = X := ⟨_, rfl⟩
  have c0 : W2.cell? ⟨w.heap.size, 0, none⟩ = some (.int .u8 x.kd) := (hx2.cell 0).trans a0
  have c46 : W2.cell? ⟨w.heap.size, 46, none⟩ = some (.slice x.A x.m x.c) := (hx2.cell 46).trans a46
  clear hW1 hW2 hW3 hs1 hs2 hx1 hx2 hx3 hr2 hr3 hq3 hb3
  go_enter Tryd.func25, Tryd.ntmps25
  rw [hX] at c0 c46 HS1 HS2 HX3 HR3 HQ3
  have HXX := Lib.hid hX
  clear hX
  go_wp2_with (first
    | (refine wpList_v (op := ⟨some 2, _, _, _, _, _⟩) rfl _ (alloc_R' _ _ rfl _ W2 (X + 1) (by rw [HW1.out]; exact HS1.out) (by rw [HW1.out]; exact HW2.out)) ?_; rw [HXX.out])
    | (refine wpList_v rfl _ (build_K _ _ (.tmp 5) (.tmp 7) rfl x rfl rfl _) ?_)
    | (refine wpList_v (op := ⟨some 3, _, _, _, _, _⟩) rfl _ (alloc_R' _ _ rfl _ W3 (X + 2) HS2.out HW3.out) ?_)
    | (refine wpList_st rfl 42 (.tmp 3) (.tmp 8) rfl (X + 2) 0 rfl (.agg (pdC (pdK x))) (pdC (pdK x)) rfl rfl info_pdR (pdC_one _) HQ3.out (Nat.le_of_ble_eq_true rfl) (pd_all _ _) ?_; intro w1 hst1; refine Hid.out ?_))
  refine Lib.hid ?_
  have HX : Hid (PdT 42 w1 X x) := Lib.hid (PdT.far HX3.out hst1 (by omega))
  have HR : Hid (PdT 42 w1 (X + 1) pd0) := Lib.hid (PdT.far HR3.out hst1 (by omega))
  have HQ : Hid (PdT 42 w1 (X + 2) (pdK x)) := Lib.hid hst1.1
  have HBx : Hid (Below (X + 2) w1 w1) := Lib.hid (Below.refl _ _)
  have HB1 : Hid (Below w.heap.size w w1) := Lib.hid (HB3.out.trans (hst1.2.1 _ (by rw [HXX.out]; omega)))
  have hne : X ≠ X + 2 := by omega
  have hBQ : X + 2 ≤ X + 2 := Nat.le_refl _
  have c0 : w1.cell? ⟨X, 0, none⟩ = some (.int .u8 x.kd) := (HX.out.cell 0).trans a0
  clear hst1 HX3 HR3 HQ3 HB3
  go_wp2_with fail
  refine (HH.out _).mono ?_
  rintro e w2 ⟨rfl, rfl⟩
  go_wp2_with fail
  refine (HH2.out _).mono ?_
  rintro e w2 ⟨rfl, rfl⟩
  have c1 := HX.out.so
  have HC1 := Lib.hid c1
  clear c1
  go_wp2_with (first
    | (refine wpList_load_mid rfl 36 (.tmp 9) rfl X 2 rfl (ndC x.so).toList _ HC1.out Tryd.underlying36 rfl info_node ?_)
    | (refine wpList_st rfl 36 (.tmp 11) (.tmp 10) rfl (X + 2) 2 rfl (.agg (ndC x.so)) (ndC x.so) rfl rfl info_node (nd_all _) HQ.out (Nat.le_of_ble_eq_true rfl) (C' := pdC (pl4 x)) (by kernel_rfl) ?_; intro w3' hst; refine Hid.out ?_))
  refine Lib.hid ?_
  have HQ2 : Hid (PdT 42 w3' (X + 2) (pl4 x)) := Lib.hid hst.1
  have HX2 : Hid (PdT 42 w3' X x) := Lib.hid (HX.out.far hst hne)
  have HBx2 := Lib.hid (HBx.out.trans (hst.2.1 _ hBQ))
  have c0' : w3'.cell? ⟨X, 0, none⟩ = some (.int .u8 x.kd) := (HX2.out.cell 0).trans a0
  clear hst HQ HX HBx c0 HC1
  have HQ' := HQ2
  have HBx' := HBx2
  have HR8 : Hid (PdT 42 w3' (X + 1) pd0) := Lib.hid (HR.out.below HBx'.out (by omega))
  have HB8 : Hid (Below w.heap.size w w3') := Lib.hid (HB1.out.trans (HBx'.out.mono (by rw [HXX.out]; omega)))
  go_wp2_with (first
    | (refine wpList_load_mid rfl 42 (.tmp 3) rfl (X + 2) 0 rfl (pdC (pl4 x)).toList _ HQ'.out.all Tryd.underlying42 rfl info_pdR ?_)
    | (refine wpList_st rfl 42 (.tmp 2) (.tmp 64) rfl (X + 1) 0 rfl (.agg (pdC (pl4 x))) (pdC (pl4 x)) rfl rfl info_pdR (pdC_one _) HR8.out (Nat.le_of_ble_eq_true rfl) (pd_all _ _) ?_; intro w9 hst9; refine Hid.out ?_))
  refine Lib.hid ?_
  have HR9 : Hid (PdT 42 w9 (X + 1) (pl4 x)) := Lib.hid hst9.1
  have HB9 := Lib.hid (HB8.out.trans (hst9.2.1 _ (by rw [HXX.out]; omega)))
  clear hst9
  go_wp2_with fail
  refine bodyPost_ret (results_R rfl _ w9 (X + 1) _ rfl HR9.out) rfl ⟨rfl, HB9.out⟩
set_option maxHeartbeats 4000000 in
set_option maxRecDepth 100000 in
theorem plain_3 (x : Pd) (h1 : ¬ (x.kd = 15 ∨ x.kd = 16 ∨ x.kd = 17)) (h2 : ¬ (x.kd = 18 ∨ x.kd = 20)) (h26 : x.kd < 26) (w : World) :
    Calls Tryd.prog 25 #[.agg (pdC x)] w fun e w' => e = .returned (.agg (pdC (pl3 x))) ∧ Below w.heap.size w w' := by
  have a0 := pdC_kd x
  have a46 := pdC_tl x
  have HH := Lib.hid (hello_no x.kd h1)
  have HH2 := Lib.hid (lsp_no x.kd h2)
  clear h1 h2
  obtain ⟨W1, hW1⟩ : ∃ W1, w.alloc (.cells (pdC x) 42) = W1 := ⟨_, rfl⟩
  obtain ⟨W2, hW2⟩ : ∃ W2, W1.alloc (.cells (pdC pd0) 42) = W2 := ⟨_, rfl⟩
  obtain ⟨W3, hW3⟩ : ∃ W3, W2.alloc (.cells (pdC pd0) 42) = W3 := ⟨_, rfl⟩
  have hs1 : W1.heap.size = w.heap.size + 1 := by rw [← hW1]; simp
  have hs2 : W2.heap.size = w.heap.size + 2 := by rw [← hW2]; simp [hs1]
  have hx1 : PdT 42 W1 w.heap.size x := by rw [← hW1]; exact heap_alloc_new w _
  have hx2 : PdT 42 W2 w.heap.size x := by rw [← hW2]; exact (Below.heap_alloc _ _ _ (by omega)).trans hx1
  have hx3 : PdT 42 W3 w.heap.size x := by rw [← hW3]; exact (Below.heap_alloc _ _ _ (by omega)).trans hx2
  have hr2 : PdT 42 W2 (w.heap.size + 1) pd0 := by rw [← hW2, ← hs1]; exact heap_alloc_new W1 _
  have hr3 : PdT 42 W3 (w.heap.size + 1) pd0 := by rw [← hW3]; exact (Below.heap_alloc _ _ _ (by omega)).trans hr2
  have hq3 : PdT 42 W3 (w.heap.size + 2) pd0 := by rw [← hW3, ← hs2]; exact heap_alloc_new W2 _
  have hb3 : Below w.heap.size w W3 := by rw [← hW3, ← hW2, ← hW1]; exact (((bself w).alloc (Nat.le_refl _) _).alloc (by simp) _).alloc (by simp; omega) _
  have HW1 := Lib.hid hW1
  have HW2 := Lib.hid hW2
  have HW3 := Lib.hid hW3
  have HS1 := Lib.hid hs1
  have HS2 := Lib.hid hs2
  have HX3 := Lib.hid hx3
  have HR3 := Lib.hid hr3
  have HQ3 := Lib.hid hq3
  have HB3 := Lib.hid hb3
  obtain ⟨X, hX⟩ : ∃ X, w.heap.size = X := ⟨_, rfl⟩
  have c0 : W2.cell? ⟨w.heap.size, 0, none⟩ = some (.int .u8 x.kd) := (hx2.cell 0).trans a0
  have c46 : W2.cell? ⟨w.heap.size, 46, none⟩ = some (.slice x.A x.m x.c) := (hx2.cell 46).trans a46
  clear hW1 hW2 hW3 hs1 hs2 hx1 hx2 hx3 hr2 hr3 hq3 hb3
  go_enter Tryd.func25, Tryd.ntmps25
  rw [hX] at c0 c46 HS1 HS2 HX3 HR3 HQ3
  have HXX := Lib.hid hX
  clear hX
  go_wp2_with (first
    | (refine wpList_v (op := ⟨some 2, _, _, _, _, _⟩) rfl _ (alloc_R' _ _ rfl _ W2 (X + 1) (by rw [HW1.out]; exact HS1.out) (by rw [HW1.out]; exact HW2.out)) ?_; rw [HXX.out])
    | (refine wpList_v rfl _ (build_K _ _ (.tmp 5) (.tmp 7) rfl x rfl rfl _) ?_)
    | (refine wpList_v (op := ⟨some 3, _, _, _, _, _⟩) rfl _ (alloc_R' _ _ rfl _ W3 (X + 2) HS2.out HW3.out) ?_)
    | (refine wpList_st rfl 42 (.tmp 3) (.tmp 8) rfl (X + 2) 0 rfl (.agg (pdC (pdK x))) (pdC (pdK x)) rfl rfl info_pdR (pdC_one _) HQ3.out (Nat.le_of_ble_eq_true rfl) (pd_all _ _) ?_; intro w1 hst1; refine Hid.out ?_))
  refine Lib.hid ?_
  have HX : Hid (PdT 42 w1 X x) := Lib.hid (PdT.far HX3.out hst1 (by omega))
  have HR : Hid (PdT 42 w1 (X + 1) pd0) := Lib.hid (PdT.far HR3.out hst1 (by omega))
  have HQ : Hid (PdT 42 w1 (X + 2) (pdK x)) := Lib.hid hst1.1
  have HBx : Hid (Below (X + 2) w1 w1) := Lib.hid (Below.refl _ _)
  have HB1 : Hid (Below w.heap.size w w1) := Lib.hid (HB3.out.trans (hst1.2.1 _ (by rw [HXX.out]; omega)))
  have hne : X ≠ X + 2 := by omega
  have hBQ : X + 2 ≤ X + 2 := Nat.le_refl _
  have c0 : w1.cell? ⟨X, 0, none⟩ = some (.int .u8 x.kd) := (HX.out.cell 0).trans a0
  clear hst1 HX3 HR3 HQ3 HB3
  go_wp2_with fail
  refine (HH.out _).mono ?_
  rintro e w2 ⟨rfl, rfl⟩
  go_wp2_with fail
  refine (HH2.out _).mono ?_
  rintro e w2 ⟨rfl, rfl⟩
  have c1 := HX.out.so
  have HC1 := Lib.hid c1
  clear c1
  go_wp2_with (first
    | (refine wpList_load_mid rfl 36 (.tmp 9) rfl X 2 rfl (ndC x.so).toList _ HC1.out Tryd.underlying36 rfl info_node ?_)
    | (refine wpList_st rfl 36 (.tmp 11) (.tmp 10) rfl (X + 2) 2 rfl (.agg (ndC x.so)) (ndC x.so) rfl rfl info_node (nd_all _) HQ.out (Nat.le_of_ble_eq_true rfl) (C' := pdC (pl4 x)) (by kernel_rfl) ?_; intro w3' hst; refine Hid.out ?_))
  refine Lib.hid ?_
  have HQ2 : Hid (PdT 42 w3' (X + 2) (pl4 x)) := Lib.hid hst.1
  have HX2 : Hid (PdT 42 w3' X x) := Lib.hid (HX.out.far hst hne)
  have HBx2 := Lib.hid (HBx.out.trans (hst.2.1 _ hBQ))
  have c0' : w3'.cell? ⟨X, 0, none⟩ = some (.int .u8 x.kd) := (HX2.out.cell 0).trans a0
  clear hst HQ HX HBx c0 HC1
  have HQ' := HQ2
  have HBx' := HBx2
  go_wp2_with fail
  have HX := HX2
  have HQ := HQ'
  have HBx := HBx'
  clear HX2 HQ' HBx' HQ2 HBx2 c0'
  refine wp_region_held_drew (S := fun w' => PdT 42 w' X x) (by kernel_rfl) HX.out (fun hS0 => ?_)
  refine takeY (i := 0) (some 15) (v := .pointer (some ⟨X, 30, none⟩)) rfl rfl (by kernel_rfl) (by kernel_rfl) (by kernel_rfl) (fun _ _ _ h => h) (by rfl) (fun w' hS => by go_simp) hS0 ?_
  simp only [Act.put, List.setIfInBounds_toArray, List.set_cons_zero, List.set_cons_succ]
  refine takeL (i := 1) (some 16) 38 (.tmp 15) X 30 (idC x.st) _ rfl rfl (by kernel_rfl) (by kernel_rfl) (by kernel_rfl) (fun _ _ _ h => h) (by rfl) rfl rfl (fun w' hS => hS.st) Tryd.underlying38 rfl info_id hS0 ?_
  simp only [Act.put, List.setIfInBounds_toArray, List.set_cons_zero, List.set_cons_succ]
  refine takeY (i := 2) (some 17) (v := .pointer (some ⟨X, 38, none⟩)) rfl rfl (by kernel_rfl) (by kernel_rfl) (by kernel_rfl) (fun _ _ _ h => h) (by rfl) (fun w' hS => by go_simp) hS0 ?_
  simp only [Act.put, List.setIfInBounds_toArray, List.set_cons_zero, List.set_cons_succ]
  refine takeL (i := 3) (some 18) 38 (.tmp 17) X 38 (idC x.en) _ rfl rfl (by kernel_rfl) (by kernel_rfl) (by kernel_rfl) (fun _ _ _ h => h) (by rfl) rfl rfl (fun w' hS => hS.en) Tryd.underlying38 rfl info_id hS0 ?_
  simp only [Act.put, List.setIfInBounds_toArray, List.set_cons_zero, List.set_cons_succ]
  have HS0 := Lib.hid hS0
  have HQ0 := HQ
  have HBx0 := Lib.hid (HBx.out.drew)
  clear hS0
  have hSn := HS0.out
  refine takeY (i := 4) (some 19) (v := .pointer (some ⟨(X + 2), 30, none⟩)) rfl rfl (by kernel_rfl) (by kernel_rfl) (by kernel_rfl) (fun _ _ _ h => h) (by rfl) (fun w' hS => by go_simp) hSn ?_
  simp only [Act.put, List.setIfInBounds_toArray, List.set_cons_zero, List.set_cons_succ]
  clear hSn
  refine takeSt (i := 5) 38 (.tmp 19) (.tmp 16) (X + 2) 30 (.agg (idC x.st)) (idC x.st) (pdC (⟨x.kd, 0, x.so, 0, 0, 0, z0, 0, z0, 0, 0, x.st, z0, x.A, x.m, x.c⟩)) rfl rfl (by kernel_rfl) (by rfl) rfl rfl rfl rfl info_id (id_all _) HQ0.out (Nat.le_of_ble_eq_true rfl) (by kernel_rfl) (fun v1' hst1 => ⟨PdT.far HS0.out hst1 hne, ?_⟩)
  have HS1 := Lib.hid (PdT.far HS0.out hst1 hne)
  have HQ1 : Hid (PdT 42 v1' (X + 2) (⟨x.kd, 0, x.so, 0, 0, 0, z0, 0, z0, 0, 0, x.st, z0, x.A, x.m, x.c⟩)) := Lib.hid hst1.1
  have HBx1 := Lib.hid (HBx0.out.trans (hst1.2.1 _ hBQ))
  clear hst1
  have hSn := HS1.out
  refine takeY (i := 6) (some 20) (v := .pointer (some ⟨(X + 2), 38, none⟩)) rfl rfl (by kernel_rfl) (by kernel_rfl) (by kernel_rfl) (fun _ _ _ h => h) (by rfl) (fun w' hS => by go_simp) hSn ?_
  simp only [Act.put, List.setIfInBounds_toArray, List.set_cons_zero, List.set_cons_succ]
  clear hSn
  refine takeSt (i := 7) 38 (.tmp 20) (.tmp 18) (X + 2) 38 (.agg (idC x.en)) (idC x.en) (pdC (⟨x.kd, 0, x.so, 0, 0, 0, z0, 0, z0, 0, 0, x.st, x.en, x.A, x.m, x.c⟩)) rfl rfl (by kernel_rfl) (by rfl) rfl rfl rfl rfl info_id (id_all _) HQ1.out (Nat.le_of_ble_eq_true rfl) (by kernel_rfl) (fun v2' hst2 => ⟨PdT.far HS1.out hst2 hne, ?_⟩)
  have HS2 := Lib.hid (PdT.far HS1.out hst2 hne)
  have HQ2 : Hid (PdT 42 v2' (X + 2) (⟨x.kd, 0, x.so, 0, 0, 0, z0, 0, z0, 0, 0, x.st, x.en, x.A, x.m, x.c⟩)) := Lib.hid hst2.1
  have HBx2 := Lib.hid (HBx1.out.trans (hst2.2.1 _ hBQ))
  clear hst2
  refine wpAnyH_done (by kernel_rfl) ?_ _
  have HX' := HS2
  have HQ' := HQ2
  have HBx' := HBx2
  clear HX HQ HBx HQ0 HS0 HBx0 HS1 HQ1 HBx1 HS2 HQ2 HBx2
  have HR8 : Hid (PdT 42 v2' (X + 1) pd0) := Lib.hid (HR.out.below HBx'.out (by omega))
  have HB8 : Hid (Below w.heap.size w v2') := Lib.hid (HB1.out.trans (HBx'.out.mono (by rw [HXX.out]; omega)))
  go_wp2_with (first
    | (refine wpList_load_mid rfl 42 (.tmp 3) rfl (X + 2) 0 rfl (pdC (pl3 x)).toList _ HQ'.out.all Tryd.underlying42 rfl info_pdR ?_)
    | (refine wpList_st rfl 42 (.tmp 2) (.tmp 64) rfl (X + 1) 0 rfl (.agg (pdC (pl3 x))) (pdC (pl3 x)) rfl rfl info_pdR (pdC_one _) HR8.out (Nat.le_of_ble_eq_true rfl) (pd_all _ _) ?_; intro w9 hst9; refine Hid.out ?_))
  refine Lib.hid ?_
  have HR9 : Hid (PdT 42 w9 (X + 1) (pl3 x)) := Lib.hid hst9.1
  have HB9 := Lib.hid (HB8.out.trans (hst9.2.1 _ (by rw [HXX.out]; omega)))
  clear hst9
  go_wp2_with fail
  refine bodyPost_ret (results_R rfl _ w9 (X + 1) _ rfl HR9.out) rfl ⟨rfl, HB9.out⟩
end Go.Proofs.YtccoicjmmeoggaaDoor

/- The document's Head: how many bytes stand ahead of the TLVs. Each theorem states its conditions. -/
namespace Go.Proofs.YtccoicjmmeoggaaDoor
open Go.RowKit
set_option linter.unusedVariables false
end Go.Proofs.YtccoicjmmeoggaaDoor

/- The document's Join and DocJoin write a list as bytes. Each theorem states its conditions. -/
namespace Go.Proofs.YtccoicjmmeoggaaDoor
open Go.RowKit
set_option linter.unusedVariables false

end Go.Proofs.YtccoicjmmeoggaaDoor

/- Bytes that grow by appends while other blocks stay as they are. Each theorem states its conditions. -/
namespace Go.Proofs.YtccoicjmmeoggaaDoor
open Go.RowKit
set_option linter.unusedVariables false

/-- blocks that stay as they are -/
def Kp (w : World) (l : List (Nat × Obj)) : Prop := ∀ p ∈ l, w.heap[p.1]? = some p.2
/-- bytes that grow: v is a row of the call's own, apart from the blocks of l -/
def Out (w0 w : World) (v : Value) (n : Nat) (z : Nat → Int) (l : List (Nat × Obj)) : Prop :=
  OwnB w w0.heap.size v n z ∧ Below w0.heap.size w0 w ∧ Kp w l ∧ ∀ p ∈ l, v.ownBlock ≠ some p.1
theorem Kp.nil (w : World) : Kp w [] := fun p h => by cases h
theorem Kp.cons {w : World} {l : List (Nat × Obj)} {g : Nat} {o : Obj} (h : Kp w l) (hg : w.heap[g]? = some o) : Kp w ((g, o) :: l) := by
  intro p hp
  rcases List.mem_cons.1 hp with rfl | hp
  · exact hg
  · exact h p hp
theorem Kp.tail {w : World} {l : List (Nat × Obj)} {q : Nat × Obj} (h : Kp w (q :: l)) : Kp w l := fun p hp => h p (List.mem_cons_of_mem _ hp)
theorem Kp.below {w w' : World} {l : List (Nat × Obj)} (h : Kp w l) (hb : Below w.heap.size w w') : Kp w' l := fun p hp => (hb.block _ (Array.getElem?_eq_some_iff.1 (h p hp)).1).trans (h p hp)
section
variable {w0 w w' : World} {v : Value} {n : Nat} {z : Nat → Int} {l : List (Nat × Obj)}
theorem Out.kp (h : Out w0 w v n z l) : Kp w l := h.2.2.1
theorem Out.le (h : Out w0 w v n z l) : w0.heap.size ≤ w.heap.size := h.2.1.size
theorem Out.tail {q : Nat × Obj} (h : Out w0 w v n z (q :: l)) : Out w0 w v n z l := ⟨h.1, h.2.1, h.2.2.1.tail, fun p hp => h.2.2.2 p (List.mem_cons_of_mem _ hp)⟩
theorem Out.below (h : Out w0 w v n z l) (hb : Below w.heap.size w w') : Out w0 w' v n z l := ⟨h.1.below hb, h.2.1.trans (hb.mono h.le), h.2.2.1.below hb, h.2.2.2⟩
theorem Out.new (h : Out w0 w v n z l) (hb : Below w.heap.size w w') {g : Nat} {o : Obj} (hg : w.heap.size ≤ g) (ho : w'.heap[g]? = some o) : Out w0 w' v n z ((g, o) :: l) := by
  refine ⟨h.1.below hb, h.2.1.trans (hb.mono h.le), (h.2.2.1.below hb).cons ho, fun p hp => ?_⟩
  rcases List.mem_cons.1 hp with rfl | hp
  · intro e
    have := (h.1.1.lt _ e).2
    simp only at this
    omega
  · exact h.2.2.2 p hp
theorem Out.alloc (h : Out w0 w v n z l) (C : Array Value) (t : TypeId) : Out w0 (w.alloc (.cells C t)) v n z ((w.heap.size, .cells C t (0, 0)) :: l) := h.new ((bself w).alloc (Nat.le_refl _) _) (Nat.le_refl _) (heap_alloc_new w _)
theorem Out.zz {z' : Nat → Int} (h : Out w0 w v n z l) (he : ∀ j, j < n → z j = z' j) (hz : ∀ j, 0 ≤ z' j ∧ z' j ≤ 255) : Out w0 w v n z' l := by
  refine ⟨⟨?_, hz⟩, h.2⟩
  rw [← vals_ext he]
  exact h.1.1
end
section
variable {ops : Array Oper} {Q : Exit → Act → World → Prop} {md : Region.Mode} {S : World → Prop}
end
theorem Kp.head {w : World} {l : List (Nat × Obj)} {q : Nat × Obj} (h : Kp w (q :: l)) : w.heap[q.1]? = some q.2 := h q List.mem_cons_self
end Go.Proofs.YtccoicjmmeoggaaDoor

/- The document's Fields: may the fields of a packet stand so. Each theorem states its conditions. -/
namespace Go.Proofs.YtccoicjmmeoggaaDoor
open Go.RowKit
set_option linter.unusedVariables false
end Go.Proofs.YtccoicjmmeoggaaDoor

/- The document's check bytes, found by trying them all, are those that octet.Sum reckons. Each theorem states its conditions. -/
namespace Go.Proofs.YtccoicjmmeoggaaDoor
open Go.RowKit
set_option linter.unusedVariables false

end Go.Proofs.YtccoicjmmeoggaaDoor

/- What the document's Write is walked with. Each theorem states its conditions. -/
namespace Go.Proofs.YtccoicjmmeoggaaDoor
open Go.RowKit
set_option linter.unusedVariables false

/-- n new bytes are answered -/
def RwP (w : World) (n : Nat) (z : Nat → Int) (e : Ending) (w' : World) : Prop :=
  ∃ g c, e = .returned (.slice (some ⟨g, 0, none⟩) n c) ∧ w.heap.size ≤ g ∧ Own8 w' g n c z ∧ Below w.heap.size w w'
theorem pdZ_bd (p : Pd) (q : Nat) (L : Nat → It) (hq : q ≤ 4) (hp : PdOk p) (hJ : ∀ j, 0 ≤ J L p.m j ∧ J L p.m j ≤ 255) : ∀ j, 0 ≤ pdZ p q L j ∧ pdZ p q L j ≤ 255 := by
  have h := cat_bd (n := hdN q) (accZ_bd p (hdN q + sz L p.m) q hq hp (flC q).length) hJ
  unfold pdZ
  split
  · exact sgZ_bd _ _ h
  · exact h
end Go.Proofs.YtccoicjmmeoggaaDoor

/- The document's Write writes a packet. Each theorem states its conditions. -/
namespace Go.Proofs.YtccoicjmmeoggaaDoor
open Go.RowKit
set_option linter.unusedVariables false

end Go.Proofs.YtccoicjmmeoggaaDoor

/- The document's Write writes a packet. Each theorem states its conditions. -/
namespace Go.Proofs.YtccoicjmmeoggaaDoor
open Go.RowKit
set_option linter.unusedVariables false

end Go.Proofs.YtccoicjmmeoggaaDoor

/- The document's DocWrite: what it answers, for every packet. Each theorem states its conditions. -/
namespace Go.Proofs.YtccoicjmmeoggaaDoor
open Go.RowKit
set_option linter.unusedVariables false

theorem cls_cases (k : Int) (q : Nat) (h : cls k = q) (hq : q ≤ 4) : (k = 17 ∧ q = 0) ∨ (k = 15 ∧ q = 1) ∨ (k = 16 ∧ q = 1) ∨ (k = 18 ∧ q = 2) ∨ (k = 20 ∧ q = 2) ∨ (k = 24 ∧ q = 3) ∨ (k = 25 ∧ q = 3) ∨ (k = 26 ∧ q = 4) ∨ (k = 27 ∧ q = 4) := by
  unfold cls at h
  (repeat' split at h) <;> omega
end Go.Proofs.YtccoicjmmeoggaaDoor

/- The document's Twin of a list. Each theorem states its conditions. -/
namespace Go.Proofs.YtccoicjmmeoggaaDoor
open Go.RowKit
set_option linter.unusedVariables false

/-- the same item, its bytes elsewhere -/
def Alike (t t' : It) : Prop := t.ty = t'.ty ∧ t.n = t'.n ∧ t.z = t'.z
def TwinTPost (w : World) (m : Nat) (L : Nat → It) (e : Ending) (w' : World) : Prop :=
  ∃ v L', e = .returned v ∧ OwnT w' w.heap.size v m L' ∧ (∀ j, j < m → Alike (L j) (L' j)) ∧ Below w.heap.size w w'

set_option maxHeartbeats 4000000 in
set_option maxRecDepth 100000 in
theorem twinT_any (A : Option Addr) (m c : Nat) (L : Nat → It) (w : World) (h : RdT w A m L) (hm : m * 32 ≤ 140737488351232) :
    Calls Tryd.prog 16 #[.slice A m c] w (TwinTPost w m L) := by
  obtain ⟨i0, hi, hz0, hz1, hz2⟩ := info_parts info_tlv
  have HR := Lib.hid h
  clear h
  go_enter Tryd.func16, Tryd.ntmps16
  go_wp2_with fail
  go_loopw [3, 8] (fun v i wr => ∃ (k : Nat) (L' : Nat → It), k ≤ m ∧ i = .int .i64 k ∧ OwnT wr w.heap.size v k L' ∧ Hid (∀ j, j < k → Alike (L j) (L' j)) ∧ Below w.heap.size w wr)
    (fun _ i _ => m - (intOf i).toNat)
  case atStart => exact ⟨0, L, by omega, rfl, OwnT.nil _ _ _, Lib.hid (fun j hj => by omega), bself w⟩
  case round =>
    obtain ⟨k, L', hk, rfl, hown, hL, hb⟩ := hrel
    by_cases hkm : k < m
    · obtain ⟨b, off, rfl, hr⟩ := (HR.out.below hb).row (by omega)
      obtain ⟨c0, c1, c2⟩ := hr.2 k hkm
      have H := Lib.hid (fun (W : World) (hW : Rd W (L k).A (L k).n (L k).z) => twin_any (L k).A (L k).n (L k).c (L k).z W hW c2.2.2.1 (by have := c2.2.2.2; omega))
      have hRd : Rd w (L k).A (L k).n (L k).z := by
        obtain ⟨b', off', _, hr'⟩ := HR.out.row (by omega)
        exact (hr'.2 k hkm).2.2.2.1
      have HRd := Lib.hid hRd
      have hbs := hb.size
      have hfar : some wr.heap.size ≠ u3.ownBlock := fun e => by have := (hown.1.lt _ e.symm).2; omega
      have ho := Lib.hid hown
      have hk31 : (k + 1) * 32 ≤ 140737488355328 := by omega
      have hk63 : k + 1 ≤ maxLen := by unfold maxLen; omega
      have hbase : ∀ g1 cap1 (W : World), wr.heap.size ≤ W.heap.size → w.heap.size ≤ (W.alloc (.cells #[.int .u8 (L k).ty, .slice (some ⟨g1, 0, none⟩) (L k).n cap1] 49)).heap.size := fun g1 cap1 W h => by simp; omega
      have HB := Lib.hid hbase
      have z0 := c2.1
      have hn := c2.2.2.2
      clear hown hbase hr c2 hRd
      generalize hty : (L k).ty = ty at *
      generalize hLA : (L k).A = LA at *
      generalize hLn : (L k).n = n at *
      generalize hLc : (L k).c = lc at *
      generalize hLz : (L k).z = lz at *
      have HTY := Lib.hid hty
      have HLN := Lib.hid hLn
      have HLZ := Lib.hid hLz
      clear hty hLA hLn hLc hLz
      go_wp2_with fail
      go_region_held3 (fun w' => w'.cell? ⟨wr.heap.size, 0, none⟩ = some (.int .u8 ty) ∧ w'.cell? ⟨wr.heap.size, 1, none⟩ = some (.slice LA n lc))
        (first | go_keep | exact ⟨k0, k1⟩ | exact ⟨j0, j1⟩)
        (first | (go_at_call 27; refine (H.out _ (HRd.out.below (by exact (hb.alloc hbs _).drew) rfl)).mono ?_; (rintro e w1 ⟨g1, cap1, rfl, hg1, ho1, hb1⟩; have hbx : Below (wr.heap.size + 1) (wr.alloc (.cells #[.int .u8 ty, .slice LA n lc] 49)) w1 := (by have := (Below.refl _ _).drew.trans hb1; simpa using this); have hbz := HB.out g1 cap1 w1 (by have := hbx.size; simp at this; omega); have k0 : w1.cell? ⟨wr.heap.size, 0, none⟩ = some (.int .u8 ty) := (hbx.cell (p := ⟨wr.heap.size, 0, none⟩) (Nat.lt_succ_self _)).trans (by simp); have k1 : w1.cell? ⟨wr.heap.size, 1, none⟩ = some (.slice LA n lc) := (hbx.cell (p := ⟨wr.heap.size, 1, none⟩) (Nat.lt_succ_self _)).trans (by simp))) | (refine step_append_lies _ (by rfl) _ _ _ (by rfl) w.heap.size 49 i0 _ 2 32 Tryd.underlying40 hi hz0 hz1 hz2 rfl (by omega) u3 k (cellsT L' k) (by rfl) ((ownsRow_below (ho.out.1.alloc _) (by simpa using hbx)).alloc _) ⟨w1.heap.size, 0, none⟩ 1 1 [.int .u8 ty, .slice (some ⟨g1, 0, none⟩) n cap1] (by rfl) (by rfl) (World.news_of_block (heap_alloc_new w1 _)) (two_one _ _ _ _) (by omega) hk63 hk31 hbz (w1.heap.size + 1) (by simp) ?_; intro gg cap w2 hown2 hgrow hat hlt2; have j0 : w2.cell? ⟨wr.heap.size, 0, none⟩ = some (.int .u8 ty) := hgrow.cell (by rw [World.cell?_alloc_lt _ _ _ (cell_lt k0)]; exact k0) hfar; have j1 : w2.cell? ⟨wr.heap.size, 1, none⟩ = some (.slice LA n lc) := hgrow.cell (by rw [World.cell?_alloc_lt _ _ _ (cell_lt k1)]; exact k1) hfar))
      have hit : OwnV (w1.alloc (.cells #[.int .u8 ty, .slice (some ⟨g1, 0, none⟩) n cap1] 49)) w.heap.size ⟨ty, some ⟨g1, 0, none⟩, n, cap1, lz⟩ := ⟨z0, by show n ≤ _; omega, g1, rfl, by simp at hg1; omega, ho1.alloc _⟩
      have R := Lib.hid (OwnT.push (((ho.out.below ((bself wr).alloc (Nat.le_refl _) (.cells #[.int .u8 ty, .slice LA n lc] 49))).below (by simpa using hbx)).below ((bself w1).alloc (Nat.le_refl _) (.cells #[.int .u8 ty, .slice (some ⟨g1, 0, none⟩) n cap1] 49))) hit hown2 hgrow)
      have hI : ∀ j, j < k + 1 → Alike (L j) (updT L' k ⟨ty, some ⟨g1, 0, none⟩, n, cap1, lz⟩ j) := by
        intro j hj
        by_cases e : j = k
        · subst e; rw [updT_same]; exact ⟨HTY.out, HLN.out, HLZ.out⟩
        · rw [updT_other _ _ _ _ e]; exact hL.out j (by omega)
      have hw1s := hbx.size
      simp at hw1s
      have hB2 : Below w.heap.size w w2 := (((hb.alloc hbs _).trans (hbx.mono (by omega))).alloc (by omega) _).grown hgrow (by simp; omega) (fun x e => (ho.out.1.lt x e).1)
      have HI := Lib.hid hI
      have HB2 := Lib.hid hB2
      clear hI hB2 hit hown2 hgrow ho1 hb1 hbx hbz hat hlt2 c0 c1 hg1 j0 j1 k0 k1
      go_wp2
      go_roundw
      case rel => exact ⟨k + 1, _, by omega, by go_num, R.out, HI, HB2.out⟩
      case measure => simp only [intOf]; omega
    · obtain rfl : k = m := by omega
      have ho := Lib.hid hown
      clear hown
      go_wp2
      go_ret
      exact ⟨_, L', rfl, ho.out, hL.out, hb⟩
end Go.Proofs.YtccoicjmmeoggaaDoor

/- Lists as bytes and back. Each theorem states its conditions. -/
namespace Go.Proofs.YtccoicjmmeoggaaDoor
open Go.RowKit
set_option linter.unusedVariables false

theorem sz_congr {L L' : Nat → It} {m : Nat} (h : ∀ j, j < m → (L j).n = (L' j).n) : ∀ k, k ≤ m → sz L k = sz L' k := by
  intro k hk
  induction k with
  | zero => rfl
  | succ k ih => simp only [sz, ih (by omega), h k (by omega)]
theorem bad_congr {L L' : Nat → It} {m : Nat} (h : ∀ j, j < m → (L j).n = (L' j).n) (k : Nat) (hk : k < m) : bad L k ↔ bad L' k := by
  unfold bad; rw [h k hk, sz_congr h (k + 1) (by omega)]
theorem jends_congr {L L' : Nat → It} {m m0 : Nat} (h : ∀ j, j < m → (L j).n = (L' j).n) (hj : JEnds L m m0) : JEnds L' m m0 :=
  ⟨hj.1, fun k hk => fun hb => hj.2.1 k hk ((bad_congr h k (by have := hj.1; omega)).2 hb), hj.2.2.elim .inl (fun hx => .inr ⟨hx.1, (bad_congr h m0 hx.1).1 hx.2⟩)⟩
theorem J_congr {L L' : Nat → It} {m : Nat} (h : ∀ j, j < m → (L j).ty = (L' j).ty ∧ (L j).n = (L' j).n ∧ ∀ i, i < (L j).n → (L j).z i = (L' j).z i) : ∀ k, k ≤ m → ∀ j, j < sz L k → J L k j = J L' k j := by
  intro k hk
  induction k with
  | zero => intro j hj; simp [sz] at hj
  | succ k ih =>
    intro j hj
    have hs := sz_congr (fun j hj => (h j hj).2.1) k (by omega)
    obtain ⟨h1, h2, h3⟩ := h k (by omega)
    simp only [J, ← hs, ← h1, ← h2]
    unfold cat
    split
    · split
      · exact ih (by omega) j (by omega)
      · rfl
    · exact h3 _ (by simp only [sz] at hj; omega)
theorem J_old (L : Nat → It) (k m : Nat) (h : k ≤ m) : ∀ j, j < sz L k → J L m j = J L k j := by
  induction m with
  | zero => obtain rfl : k = 0 := by omega
            intro j _; rfl
  | succ m ih =>
    by_cases e : k = m + 1
    · subst e; intro j _; rfl
    · intro j hj
      have := sz_mono L k m (by omega)
      simp only [J]
      unfold cat
      rw [if_pos (by omega), if_pos (by omega)]
      exact ih (by omega) j hj
theorem J_item (L : Nat → It) (k m : Nat) (h : k < m) : J L m (sz L k) = (L k).ty ∧ J L m (sz L k + 1) = (L k).n ∧ ∀ i, i < (L k).n → J L m (sz L k + 2 + i) = (L k).z i := by
  have hs : sz L (k + 1) = sz L k + (2 + (L k).n) := rfl
  refine ⟨?_, ?_, fun i hi => ?_⟩
  · rw [J_old L (k + 1) m (by omega) _ (by omega)]
    simp [J, cat, two]
  · rw [J_old L (k + 1) m (by omega) _ (by omega)]
    simp [J, cat, two]
    omega
  · rw [J_old L (k + 1) m (by omega) _ (by omega)]
    simp only [J]
    unfold cat
    rw [if_neg (by omega)]
    congr 1; omega
theorem J_pos (L : Nat → It) (m : Nat) : ∀ k, k ≤ m → pos (J L m) k = sz L k := by
  intro k hk
  induction k with
  | zero => rfl
  | succ k ih =>
    obtain ⟨_, h2, _⟩ := J_item L k m (by omega)
    simp only [pos, sz, ih (by omega), h2]
    omega
theorem J_back {L L5 : Nat → It} {m : Nat} (hI : IsItZ (J L m) L5 m) : ∀ j, j < m → (L5 j).ty = (L j).ty ∧ (L5 j).n = (L j).n ∧ ∀ i, i < (L5 j).n → (L5 j).z i = (L j).z i := by
  intro j hj
  obtain ⟨g, cap, e⟩ := hI j hj
  obtain ⟨h1, h2, h3⟩ := J_item L j m hj
  rw [e]
  unfold itZ
  simp only [J_pos L m j (by omega), h1, h2]
  refine ⟨trivial, by omega, fun i hi => h3 i (by omega)⟩
end Go.Proofs.YtccoicjmmeoggaaDoor

/- Check bytes that are laid are right there; a byte that is turned is seen. Plain facts, and what two stores leave. Each theorem states its conditions. -/
namespace Go.Proofs.YtccoicjmmeoggaaDoor
open Go.RowKit
set_option linter.unusedVariables false

theorem sumA_congr (z z' : Nat → Int) (s k : Nat) (h : ∀ j, j < k → j ≠ s → j ≠ s + 1 → z j = z' j) : sumA z s k = sumA z' s k := by
  induction k with
  | zero => rfl
  | succ k ih =>
    have := ih fun j hj => h j (by omega)
    by_cases hk : k = s ∨ k = s + 1
    · rw [sumA_skip _ _ _ hk, sumA_skip _ _ _ hk, this]
    · rw [sumA_take _ _ _ hk, sumA_take _ _ _ hk, this, h k (by omega) (by omega) (by omega)]
theorem sumB_congr (z z' : Nat → Int) (s n k : Nat) (h : ∀ j, j < k → j ≠ s → j ≠ s + 1 → z j = z' j) : sumB z s n k = sumB z' s n k := by
  induction k with
  | zero => rfl
  | succ k ih =>
    have := ih fun j hj => h j (by omega)
    by_cases hk : k = s ∨ k = s + 1
    · rw [sumB_skip _ _ _ _ hk, sumB_skip _ _ _ _ hk, this]
    · rw [sumB_take _ _ _ _ hk, sumB_take _ _ _ _ hk, this, h k (by omega) (by omega) (by omega)]
/-- the bytes with their check bytes laid -/
def laidZ (z : Nat → Int) (s n : Nat) : Nat → Int := upd (upd z s (chkX z s n)) (s + 1) (chkY z s n)
theorem laidZ_far (z : Nat → Int) (s n j : Nat) (h1 : j ≠ s) (h2 : j ≠ s + 1) : laidZ z s n j = z j := by
  unfold laidZ; rw [upd_other _ _ _ _ h2, upd_other _ _ _ _ h1]
theorem laidZ_s (z : Nat → Int) (s n : Nat) : laidZ z s n s = chkX z s n := by
  unfold laidZ; rw [upd_other _ _ _ _ (by omega), upd_same]
theorem laidZ_s1 (z : Nat → Int) (s n : Nat) : laidZ z s n (s + 1) = chkY z s n := by
  unfold laidZ; rw [upd_same]
theorem chkX_congr (z z' : Nat → Int) (s n : Nat) (h : ∀ j, j < n → j ≠ s → j ≠ s + 1 → z j = z' j) : chkX z s n = chkX z' s n := by
  unfold chkX; rw [sumA_congr z z' s n h, sumB_congr z z' s n n h]
theorem chkY_congr (z z' : Nat → Int) (s n : Nat) (h : ∀ j, j < n → j ≠ s → j ≠ s + 1 → z j = z' j) : chkY z s n = chkY z' s n := by
  unfold chkY; rw [sumA_congr z z' s n h, chkX_congr z z' s n h]
theorem chkX_laid (z : Nat → Int) (s n : Nat) : chkX (laidZ z s n) s n = chkX z s n := chkX_congr _ _ s n fun j _ h1 h2 => laidZ_far z s n j h1 h2
theorem chkY_laid (z : Nat → Int) (s n : Nat) : chkY (laidZ z s n) s n = chkY z s n := chkY_congr _ _ s n fun j _ h1 h2 => laidZ_far z s n j h1 h2
theorem right_laid (z : Nat → Int) (s n : Nat) : rightB (laidZ z s n) s n = true := by
  unfold rightB; rw [chkX_laid, chkY_laid, laidZ_s, laidZ_s1]; simp

section
variable {w w0 : World} {g n cap s : Nat} {z : Nat → Int}
theorem Own8.at_ (h : Own8 w g n cap z) (j : Nat) (hj : j < n) : w.cell? ⟨g, j, none⟩ = some (.int .u8 (z j)) := by
  have := h.row.2.1 j hj
  rwa [Nat.zero_add] at this
end
end Go.Proofs.YtccoicjmmeoggaaDoor

/- Cells that came in as an argument. Each theorem states its conditions. -/
namespace Go.Proofs.YtccoicjmmeoggaaDoor
open Go.RowKit Go.ChangeShapes Go.WideShapes
set_option linter.unusedVariables false

theorem dnumZ_congr (z z' : Nat → Int) (k : Nat) (h : ∀ j, j < k → z j = z' j) : numZ z 0 k = numZ z' 0 k := by
  induction k with
  | zero => rfl
  | succ k ih =>
    show numZ z 0 k * 256 + z (0 + k) = numZ z' 0 k * 256 + z' (0 + k)
    rw [ih fun j hj => h j (by omega), Nat.zero_add, h k (by omega)]
section
variable {H : Type} {enc : TypeId × Value → H} {w : World} {base : Nat} {spare : Nat → Bool} {held : Bool} {m : Nat} {cs : List Value} {x : DataW H × List MemPlace}
theorem cell_u8 {k : Nat} {o : Option (DataW H × List MemPlace)} (h : DataW.trod enc Tryd.prog w base spare held m 5 ((cs.drop k).take 1) = o) (ho : o.isSome = true) : ∃ a : Int, cs[k]? = some (.int .u8 a) ∧ 0 ≤ a ∧ a ≤ 255 := by
  obtain ⟨y, rfl⟩ := Option.isSome_iff_exists.1 ho
  obtain ⟨a, ea, _, wa⟩ := DataW.trod_int Tryd.underlying5 h
  refine ⟨a, ?_, wf_u8 wa⟩
  have := congrArg (·[0]?) ea
  simpa [List.getElem?_take, List.getElem?_drop] using this
theorem bytes_run {n e : Nat} {t : TypeId} (ht : Tryd.prog.underlying t = some (.array n 5)) {o : Option (DataW H × List MemPlace)} (h : DataW.trod enc Tryd.prog w base spare held m t ((cs.drop e).take n) = o) (ho : o.isSome = true) :
    ∃ z : Nat → Int, (∀ i, i < n → cs[e + i]? = some (.int .u8 (z i))) ∧ ∀ i, 0 ≤ z i ∧ z i ≤ 255 := by
  obtain ⟨y, rfl⟩ := Option.isSome_iff_exists.1 ho
  have hc1 : Tryd.prog.cellsOf 5 = 1 := by kernel_rfl
  obtain ⟨ys, m2, _, _, _, hn2, hel2⟩ := DataW.trod_array ht h
  have one : ∀ i, i < n → ∃ a : Int, cs[e + i]? = some (.int .u8 a) ∧ 0 ≤ a ∧ a ≤ 255 := by
    intro i hi
    have he := hel2 i hi
    rw [hc1, Nat.mul_one] at he
    obtain ⟨a, ha, hb⟩ := cell_u8 he (by rw [List.getElem?_eq_getElem (by omega)]; rfl)
    refine ⟨a, ?_, hb⟩
    rwa [List.getElem?_take, if_pos hi, List.getElem?_drop] at ha
  refine ⟨fun i => if h : i < n then (one i h).choose else 0, fun i hi => ?_, fun i => ?_⟩
  · simp only [dif_pos hi]
    exact (one i hi).choose_spec.1
  · by_cases h : i < n
    · simp only [dif_pos h]
      exact (one i h).choose_spec.2
    · simp only [dif_neg h]
      exact ⟨Int.le_refl 0, by decide⟩
end
end Go.Proofs.YtccoicjmmeoggaaDoor

/- The bytes of a packet, read again. Each theorem states its conditions. -/
namespace Go.Proofs.YtccoicjmmeoggaaDoor
open Go.RowKit
set_option linter.unusedVariables false

theorem accZ_old (p : Pd) (W q k k' : Nat) (h : k ≤ k') : ∀ j, j < accN q k → accZ p W q k' j = accZ p W q k j := by
  induction k' with
  | zero => obtain rfl : k = 0 := by omega
            intro j _; rfl
  | succ k' ih =>
    by_cases e : k = k' + 1
    · subst e; intro j _; rfl
    · intro j hj
      have := accN_mono q k k' (by omega)
      simp only [accZ]
      unfold cat
      rw [if_pos (by omega)]
      exact ih (by omega) j hj
theorem acc_at (p : Pd) (W q i j : Nat) (hi : i < (flC q).length) (hj : j < fsz (fAt q i)) : accZ p W q (flC q).length (accN q i + j) = fZ p W (fAt q i) j := by
  rw [accZ_old p W q (i + 1) _ (by omega) _ (by simp only [accN]; omega)]
  simp only [accZ]
  unfold cat
  rw [if_neg (by omega), Nat.add_sub_cancel_left]
theorem wZ_lo (p : Pd) (q : Nat) (L : Nat → It) (j : Nat) (h : j < hdN q) : wZ p q L j = accZ p (hdN q + sz L p.m) q (flC q).length j := by
  unfold wZ cat; rw [if_pos h]
theorem wZ_hi (p : Pd) (q : Nat) (L : Nat → It) (j : Nat) : wZ p q L (hdN q + j) = J L p.m j := by
  unfold wZ cat; rw [if_neg (by omega), Nat.add_sub_cancel_left]
theorem pdZ_far (p : Pd) (q : Nat) (L : Nat → It) (j : Nat) (h : q = 2 → j ≠ 24 ∧ j ≠ 25) : pdZ p q L j = wZ p q L j := by
  unfold pdZ
  by_cases e : q = 2
  · rw [if_pos e]
    unfold sgZ
    rw [if_neg (h e).1, if_neg (h e).2]
  · rw [if_neg e]
theorem pd_field (p : Pd) (q : Nat) (L : Nat → It) (i j : Nat) (hi : i < (flC q).length) (hj : j < fsz (fAt q i)) (h11 : fAt q i ≠ 11) : pdZ p q L (accN q i + j) = fZ p (hdN q + sz L p.m) (fAt q i) j := by
  have hh := accN_hd q i hi
  rw [pdZ_far, wZ_lo _ _ _ _ (by omega), acc_at _ _ _ _ _ hi hj]
  intro e
  subst e
  have hi' : i < 6 := hi
  rcases (by omega : i = 0 ∨ i = 1 ∨ i = 2 ∨ i = 3 ∨ i = 4 ∨ i = 5) with rfl | rfl | rfl | rfl | rfl | rfl
  · have : j < 2 := hj
    show 8 + j ≠ 24 ∧ 8 + j ≠ 25; omega
  · have : j < 2 := hj
    show 10 + j ≠ 24 ∧ 10 + j ≠ 25; omega
  · have : j < 8 := hj
    show 12 + j ≠ 24 ∧ 12 + j ≠ 25; omega
  · have : j < 4 := hj
    show 20 + j ≠ 24 ∧ 20 + j ≠ 25; omega
  · exact absurd rfl h11
  · have : j < 1 := hj
    show 26 + j ≠ 24 ∧ 26 + j ≠ 25; omega
theorem pd_head (p : Pd) (q : Nat) (L : Nat → It) (hq : q ≤ 4) (j : Nat) (hj : j < 8) : pdZ p q L j = headZ p.kd (hdN q) j := by
  have hh := hdN_bd q hq
  rw [pdZ_far _ _ _ _ (fun _ => by omega), wZ_lo _ _ _ _ (by omega), accZ_old p _ q 0 _ (Nat.zero_le _) j hj]
  rfl
theorem pd_tail (p : Pd) (q : Nat) (L : Nat → It) (hq : q ≤ 4) (j : Nat) : pdZ p q L (hdN q + j) = J L p.m j := by
  rw [pdZ_far, wZ_hi]
  intro e
  subst e
  show 27 + j ≠ 24 ∧ 27 + j ≠ 25
  omega
theorem told_pd (p : Pd) (q : Nat) (L : Nat → It) (hn : hdN q + sz L p.m ≤ 1492) (i : Nat) (hi : i < (flC q).length) (h4 : fAt q i = 4) : toldN q (pdZ p q L) i = hdN q + sz L p.m := by
  unfold toldN
  rw [dnumZ_congr _ (putZ (hdN q + sz L p.m) 2) 2 (fun j hj => by rw [pd_field p q L i j hi (by rw [h4]; exact hj) (by rw [h4]; decide), h4]; rfl), num_put, Int.toNat_natCast]
  exact Nat.mod_eq_of_lt (by omega)
theorem form_pd (p : Pd) (L : Nat → It) (hq : cls p.kd ≤ 4) (hn : hdN (cls p.kd) + sz L p.m ≤ 1492) (hk : by1 p.kd) (hzb : ∀ j, 0 ≤ pdZ p (cls p.kd) L j ∧ pdZ p (cls p.kd) L j ≤ 255) : FormOk (pdZ p (cls p.kd) L) (hdN (cls p.kd) + sz L p.m) := by
  have hh := hdN_bd _ hq
  have h4 : pdZ p (cls p.kd) L 4 = p.kd := pd_head p _ L hq 4 (by omega)
  refine ⟨by omega, by rw [h4]; exact hq, by rw [h4]; omega, ?_, ?_⟩
  · rw [h4, eqB_iff hzb (headZ_bd _ _ hk (by omega))]
    exact fun j hj => pd_head p _ L hq j hj
  · rw [h4]
    exact fun i hi he => told_pd p _ L hn i hi he
/-- the same in all cells but the TLVs -/
def PdEq (p p' : Pd) : Prop := (p.kd = p'.kd ∧ p.ci = p'.ci ∧ (∀ j, j < 7 → p.so j = p'.so j) ∧ p.ho = p'.ho ∧ p.nu = p'.nu ∧ p.pr = p'.pr ∧ (∀ j, j < 7 → p.la j = p'.la j)) ∧
  p.li = p'.li ∧ (∀ j, j < 8 → p.id j = p'.id j) ∧ p.sq = p'.sq ∧ p.bi = p'.bi ∧ (∀ j, j < 8 → p.st j = p'.st j) ∧ ∀ j, j < 8 → p.en j = p'.en j
theorem pdC_ext {p p' : Pd} (h : PdEq p p') (A : Option Addr) (m c : Nat) : pdC (withT p A m c) = pdC (withT p' A m c) := by
  obtain ⟨⟨h1, h2, h3, h4, h5, h6, h7⟩, h8, h9, h10, h11, h12, h13⟩ := h
  unfold pdC withT
  simp only [h1, h2, h4, h5, h6, h8, h10, h11, h3 0 (by omega), h3 1 (by omega), h3 2 (by omega), h3 3 (by omega), h3 4 (by omega), h3 5 (by omega), h3 6 (by omega),
    h7 0 (by omega), h7 1 (by omega), h7 2 (by omega), h7 3 (by omega), h7 4 (by omega), h7 5 (by omega), h7 6 (by omega)]
  simp only [h9 0 (by omega), h9 1 (by omega), h9 2 (by omega), h9 3 (by omega), h9 4 (by omega), h9 5 (by omega), h9 6 (by omega), h9 7 (by omega), h12 0 (by omega), h12 1 (by omega), h12 2 (by omega), h12 3 (by omega), h12 4 (by omega), h12 5 (by omega), h12 6 (by omega), h12 7 (by omega), h13 0 (by omega), h13 1 (by omega), h13 2 (by omega), h13 3 (by omega), h13 4 (by omega), h13 5 (by omega), h13 6 (by omega), h13 7 (by omega)]
theorem num_field (p : Pd) (q : Nat) (L : Nat → It) (i k N : Nat) (hi : i < (flC q).length) (hk : fsz (fAt q i) = k) (h11 : fAt q i ≠ 11) (hN : fZ p (hdN q + sz L p.m) (fAt q i) = putZ N k) (hf : N < 256 ^ k) : (numZ (fun j => pdZ p q L (accN q i + j)) 0 k).toNat = N := by
  rw [dnumZ_congr _ (putZ N k) k (fun j hj => by rw [pd_field p q L i j hi (by omega) h11, hN]), num_put, Int.toNat_natCast]
  exact Nat.mod_eq_of_lt hf
theorem fitB_eq {p p' : Pd} (f : Nat) (h : p.ci = p'.ci ∧ p.ho = p'.ho ∧ p.li = p'.li ∧ p.pr = p'.pr) : fitB p f = fitB p' f := by
  obtain ⟨h1, h2, h3, h4⟩ := h
  unfold fitB
  split <;> simp only [h1, h2, h3, h4]
theorem rd_eq0 (p : Pd) (L : Nat → It) (hp : PdOk p) (hk : cls p.kd = 0) (hft : fitP p 0 = true) : PdEq (rdP 0 (pdZ p 0 L)) (pl0 p) := by
  have hfit := fun i hi => fitP_at hft i hi
  have e_kd : (rdP 0 (pdZ p 0 L)).kd = p.kd := (rdP_kd _ _).trans (pd_head p 0 L (by decide) 4 (by omega))
  have e_ci : (rdP 0 (pdZ p 0 L)).ci = p.ci := pd_field p 0 L 0 0 (by decide) (by decide) (by decide)
  have e_so : ∀ j, j < 7 → (rdP 0 (pdZ p 0 L)).so j = cutSys p.so j := fun j hj => by
    show mixS (fun j => pdZ p 0 L (accN 0 1 + j)) z0 j = cutSys p.so j
    unfold mixS
    by_cases h6 : j < 6
    · rw [if_pos h6]
      exact pd_field p 0 L 1 j (by decide) h6 (by decide)
    · rw [if_neg h6]
      unfold cutSys
      rw [if_neg h6]
      rfl
  have e_ho : (rdP 0 (pdZ p 0 L)).ho = p.ho := by
    have hb := of_decide_eq_true (hfit 2 (by decide))
    have h2 : 0 ≤ p.ho ∧ p.ho ≤ 65535 := hb
    show (((numZ (fun j => pdZ p 0 L (accN 0 2 + j)) 0 2).toNat : Nat) : Int) = p.ho
    rw [num_field p 0 L 2 2 p.ho.toNat (by decide) rfl (by decide) rfl (by omega)]
    omega
  have e_nu : (rdP 0 (pdZ p 0 L)).nu = p.nu := pd_field p 0 L 4 0 (by decide) (by decide) (by decide)
  exact ⟨⟨e_kd, e_ci, e_so, e_ho, e_nu, rfl, fun _ _ => rfl⟩, rfl, fun _ _ => rfl, rfl, rfl, fun _ _ => rfl, fun _ _ => rfl⟩
theorem rd_eq1 (p : Pd) (L : Nat → It) (hp : PdOk p) (hk : cls p.kd = 1) (hft : fitP p 1 = true) : PdEq (rdP 1 (pdZ p 1 L)) (pl1 p) := by
  have hfit := fun i hi => fitP_at hft i hi
  have e_kd : (rdP 1 (pdZ p 1 L)).kd = p.kd := (rdP_kd _ _).trans (pd_head p 1 L (by decide) 4 (by omega))
  have e_ci : (rdP 1 (pdZ p 1 L)).ci = p.ci := pd_field p 1 L 0 0 (by decide) (by decide) (by decide)
  have e_so : ∀ j, j < 7 → (rdP 1 (pdZ p 1 L)).so j = cutSys p.so j := fun j hj => by
    show mixS (fun j => pdZ p 1 L (accN 1 1 + j)) z0 j = cutSys p.so j
    unfold mixS
    by_cases h6 : j < 6
    · rw [if_pos h6]
      exact pd_field p 1 L 1 j (by decide) h6 (by decide)
    · rw [if_neg h6]
      unfold cutSys
      rw [if_neg h6]
      rfl
  have e_ho : (rdP 1 (pdZ p 1 L)).ho = p.ho := by
    have hb := of_decide_eq_true (hfit 2 (by decide))
    have h2 : 0 ≤ p.ho ∧ p.ho ≤ 65535 := hb
    show (((numZ (fun j => pdZ p 1 L (accN 1 2 + j)) 0 2).toNat : Nat) : Int) = p.ho
    rw [num_field p 1 L 2 2 p.ho.toNat (by decide) rfl (by decide) rfl (by omega)]
    omega
  have e_pr : (rdP 1 (pdZ p 1 L)).pr = p.pr := pd_field p 1 L 4 0 (by decide) (by decide) (by decide)
  have e_la : ∀ j, j < 7 → (rdP 1 (pdZ p 1 L)).la j = p.la j := fun j hj => pd_field p 1 L 5 j (by decide) hj (by decide)
  exact ⟨⟨e_kd, e_ci, e_so, e_ho, rfl, e_pr, e_la⟩, rfl, fun _ _ => rfl, rfl, rfl, fun _ _ => rfl, fun _ _ => rfl⟩
theorem rd_eq2 (p : Pd) (L : Nat → It) (hp : PdOk p) (hk : cls p.kd = 2) (hft : fitP p 2 = true) : PdEq (rdP 2 (pdZ p 2 L)) (pl2 p) := by
  have hfit := fun i hi => fitP_at hft i hi
  have e_kd : (rdP 2 (pdZ p 2 L)).kd = p.kd := (rdP_kd _ _).trans (pd_head p 2 L (by decide) 4 (by omega))
  have e_li : (rdP 2 (pdZ p 2 L)).li = p.li := by
    have hb := of_decide_eq_true (hfit 1 (by decide))
    have h2 : 0 ≤ p.li ∧ p.li ≤ 65535 := hb
    show (((numZ (fun j => pdZ p 2 L (accN 2 1 + j)) 0 2).toNat : Nat) : Int) = p.li
    rw [num_field p 2 L 1 2 p.li.toNat (by decide) rfl (by decide) rfl (by omega)]
    omega
  have e_id : ∀ j, j < 8 → (rdP 2 (pdZ p 2 L)).id j = p.id j := fun j hj => pd_field p 2 L 2 j (by decide) hj (by decide)
  have e_sq : (rdP 2 (pdZ p 2 L)).sq = p.sq := by
    show (numZ (fun j => pdZ p 2 L (accN 2 3 + j)) 0 4).toNat = p.sq
    exact num_field p 2 L 3 4 p.sq (by decide) rfl (by decide) rfl (by have := hp.2.2.2.1; omega)
  have e_bi : (rdP 2 (pdZ p 2 L)).bi = p.bi := pd_field p 2 L 5 0 (by decide) (by decide) (by decide)
  exact ⟨⟨e_kd, rfl, fun _ _ => rfl, rfl, rfl, rfl, fun _ _ => rfl⟩, e_li, e_id, e_sq, e_bi, fun _ _ => rfl, fun _ _ => rfl⟩
theorem rd_eq3 (p : Pd) (L : Nat → It) (hp : PdOk p) (hk : cls p.kd = 3) (hft : fitP p 3 = true) : PdEq (rdP 3 (pdZ p 3 L)) (pl3 p) := by
  have hfit := fun i hi => fitP_at hft i hi
  have e_kd : (rdP 3 (pdZ p 3 L)).kd = p.kd := (rdP_kd _ _).trans (pd_head p 3 L (by decide) 4 (by omega))
  have e_so : ∀ j, j < 7 → (rdP 3 (pdZ p 3 L)).so j = p.so j := fun j hj => pd_field p 3 L 1 j (by decide) hj (by decide)
  have e_st : ∀ j, j < 8 → (rdP 3 (pdZ p 3 L)).st j = p.st j := fun j hj => pd_field p 3 L 2 j (by decide) hj (by decide)
  have e_en : ∀ j, j < 8 → (rdP 3 (pdZ p 3 L)).en j = p.en j := fun j hj => pd_field p 3 L 3 j (by decide) hj (by decide)
  exact ⟨⟨e_kd, rfl, e_so, rfl, rfl, rfl, fun _ _ => rfl⟩, rfl, fun _ _ => rfl, rfl, rfl, e_st, e_en⟩
theorem rd_eq4 (p : Pd) (L : Nat → It) (hp : PdOk p) (hk : cls p.kd = 4) (hft : fitP p 4 = true) : PdEq (rdP 4 (pdZ p 4 L)) (pl4 p) := by
  have hfit := fun i hi => fitP_at hft i hi
  have e_kd : (rdP 4 (pdZ p 4 L)).kd = p.kd := (rdP_kd _ _).trans (pd_head p 4 L (by decide) 4 (by omega))
  have e_so : ∀ j, j < 7 → (rdP 4 (pdZ p 4 L)).so j = p.so j := fun j hj => pd_field p 4 L 1 j (by decide) hj (by decide)
  exact ⟨⟨e_kd, rfl, e_so, rfl, rfl, rfl, fun _ _ => rfl⟩, rfl, fun _ _ => rfl, rfl, rfl, fun _ _ => rfl, fun _ _ => rfl⟩
/-- Plain, by the class -/
def plQ (q : Nat) (p : Pd) : Pd := if q = 0 then pl0 p else if q = 1 then pl1 p else if q = 2 then pl2 p else if q = 3 then pl3 p else pl4 p
theorem rd_eq (p : Pd) (L : Nat → It) (hp : PdOk p) (q : Nat) (hk : cls p.kd = q) (hq : q ≤ 4) (hft : fitP p q = true) : PdEq (rdP q (pdZ p q L)) (plQ q p) := by
  rcases (by omega : q = 0 ∨ q = 1 ∨ q = 2 ∨ q = 3 ∨ q = 4) with rfl | rfl | rfl | rfl | rfl
  · exact rd_eq0 p L hp hk hft
  · exact rd_eq1 p L hp hk hft
  · exact rd_eq2 p L hp hk hft
  · exact rd_eq3 p L hp hk hft
  · exact rd_eq4 p L hp hk hft
theorem fit_plQ (p : Pd) (q : Nat) (hq : q ≤ 4) : fitP (plQ q p) q = fitP p q := by
  refine fitsTo_congr _ fun i hi => ?_
  rcases (by omega : q = 0 ∨ q = 1 ∨ q = 2 ∨ q = 3 ∨ q = 4) with rfl | rfl | rfl | rfl | rfl
  · have hi : i < 5 := hi
    rcases (by omega : i = 0 ∨ i = 1 ∨ i = 2 ∨ i = 3 ∨ i = 4) with rfl | rfl | rfl | rfl | rfl <;> rfl
  · have hi : i < 6 := hi
    rcases (by omega : i = 0 ∨ i = 1 ∨ i = 2 ∨ i = 3 ∨ i = 4 ∨ i = 5) with rfl | rfl | rfl | rfl | rfl | rfl <;> rfl
  · have hi : i < 6 := hi
    rcases (by omega : i = 0 ∨ i = 1 ∨ i = 2 ∨ i = 3 ∨ i = 4 ∨ i = 5) with rfl | rfl | rfl | rfl | rfl | rfl <;> rfl
  · have hi : i < 4 := hi
    rcases (by omega : i = 0 ∨ i = 1 ∨ i = 2 ∨ i = 3) with rfl | rfl | rfl | rfl <;> rfl
  · have hi : i < 2 := hi
    rcases (by omega : i = 0 ∨ i = 1) with rfl | rfl <;> rfl
theorem fit_rd (p : Pd) (L : Nat → It) (hp : PdOk p) (q : Nat) (hk : cls p.kd = q) (hq : q ≤ 4) (hft : fitP p q = true) : fitP (rdP q (pdZ p q L)) q = true := by
  have h := rd_eq p L hp q hk hq hft
  rw [← hft, ← fit_plQ p q hq]
  exact fitsTo_congr _ fun i _ => fitB_eq _ ⟨h.1.2.1, h.1.2.2.2.1, h.2.1, h.1.2.2.2.2.2.1⟩
/-- the TLVs of what was written -/
theorem tl_pd (p : Pd) (q : Nat) (L : Nat → It) (hq : q ≤ 4) : tlZ q (pdZ p q L) = J L p.m := by
  funext j
  exact pd_tail p q L hq j
theorem ends_pd (p : Pd) (q : Nat) (L : Nat → It) (hq : q ≤ 4) : pos (tlZ q (pdZ p q L)) p.m = sz L p.m := by
  rw [tl_pd p q L hq]
  exact J_pos L p.m p.m (Nat.le_refl _)
theorem right_sg (z : Nat → Int) (n : Nat) (hn : 27 ≤ n) : rightB (fun j => sgZ z n (12 + j)) 12 (n - 12) = true := by
  have e : (fun j => sgZ z n (12 + j)) = laidZ (fun j => z (12 + j)) 12 (n - 12) := by
    funext j
    unfold sgZ laidZ upd
    by_cases e13 : j = 13
    · subst e13; simp
    · by_cases e12 : j = 12
      · subst e12; simp
      · rw [if_neg (by omega), if_neg (by omega), if_neg e13, if_neg e12]
  rw [e]
  exact right_laid _ _ _
theorem right_pd (p : Pd) (q : Nat) (L : Nat → It) (h2 : q = 2) : rightB (fun j => pdZ p q L (12 + j)) 12 (hdN q + sz L p.m - 12) = true := by
  have e : pdZ p q L = sgZ (wZ p q L) (hdN q + sz L p.m) := by unfold pdZ; rw [if_pos h2]
  rw [e]
  exact right_sg _ _ (by subst h2; show 27 ≤ 27 + _; omega)
end Go.Proofs.YtccoicjmmeoggaaDoor

/- pdu.Read, all ways. Each theorem states its conditions. -/
namespace Go.Proofs.YtccoicjmmeoggaaDoor
open Go.RowKit
set_option linter.unusedVariables false

/-- the bytes are a packet of m TLVs -/
def GoodZ (z : Nat → Int) (n m : Nat) : Prop := FormOk z n ∧ fitP (rdP (cls (z 4)) z) (cls (z 4)) = true ∧ Ends (tlZ (cls (z 4)) z) (n - hdN (cls (z 4))) m ∧ pos (tlZ (cls (z 4)) z) m = n - hdN (cls (z 4)) ∧ (cls (z 4) = 2 → rightB (fun j => z (12 + j)) 12 (n - 12) = true)
theorem read_good (A : Option Addr) (n c : Nat) (z : Nat → Int) (w : World) (hr : Rd w A n z) (hc : n ≤ c) (hcm : c ≤ maxLen) (hn2 : n ≤ 1492) (m : Nat) (hg : GoodZ z n m) :
    Calls Tryd.prog 45 #[.slice A n c] w (RdOk w (cls (z 4)) z m) := by
  obtain ⟨h1, h2, h3, h4, h5⟩ := hg
  obtain ⟨b, off, rfl, hr2⟩ := hr.row (by have := h1.1; omega)
  by_cases e : cls (z 4) = 2
  · exact rd_state b off n c z w hr2 hc hcm hn2 _ rfl h1 h2 m h3 h4 e (h5 e)
  · exact rd_plain b off n c z w hr2 hc hcm hn2 _ rfl h1 h2 m h3 h4 e
/-- what was written is a packet -/
theorem good_pd (p : Pd) (L : Nat → It) (hp : PdOk p) (hq : cls p.kd ≤ 4) (hft : fitP p (cls p.kd) = true) (hn : hdN (cls p.kd) + sz L p.m ≤ 1492) (hzb : ∀ j, 0 ≤ pdZ p (cls p.kd) L j ∧ pdZ p (cls p.kd) L j ≤ 255) : GoodZ (pdZ p (cls p.kd) L) (hdN (cls p.kd) + sz L p.m) p.m := by
  have h4 : pdZ p (cls p.kd) L 4 = p.kd := pd_head p _ L hq 4 (by omega)
  have hpos := ends_pd p _ L hq
  refine ⟨form_pd p L hq hn hp.1.1 hzb, ?_, ?_, ?_, ?_⟩
  · rw [h4]; exact fit_rd p L hp _ rfl hq hft
  · rw [h4]; exact ⟨by omega, .inl (by omega)⟩
  · rw [h4, hpos]; omega
  · rw [h4]; exact fun e => right_pd p _ L e
end Go.Proofs.YtccoicjmmeoggaaDoor

/- A list of types and values that came in as an argument can be read. No condition. -/
namespace Go.Proofs.YtccoicjmmeoggaaDoor
open Go.RowKit Go.ChangeShapes Go.WideShapes
set_option linter.unusedVariables false

theorem mem_weightsAll {H : Type} {P : Program} {e : TypeId} {ds : List (DataW H)} {d : DataW H} (hd : d ∈ ds) : ∀ n ∈ d.weights P e, n ∈ DataW.weightsAll P e ds := by
  induction ds with
  | nil => cases hd
  | cons x r ih =>
    intro n hn
    simp only [DataW.weightsAll, List.mem_append]
    rcases List.mem_cons.1 hd with rfl | h
    · exact .inl hn
    · exact .inr (ih h n hn)

theorem open_tlvs {H : Type} {enc : TypeId × Value → H} {w : World} {base : Nat} {held : Bool} {a : Option Addr} {len cap : Nat} {d : DataW H} {ps : List MemPlace}
    (h : DataW.Trod enc Tryd.prog w base (fun _ => true) held 40 (.slice a len cap) d ps) (hsz : ∀ n ∈ d.weights Tryd.prog 40, n ≤ 140737488351232) :
    ∃ L, RdT w a len L ∧ (a = none → len = 0 ∧ cap = 0) ∧ len ≤ cap ∧ cap * 32 ≤ 140737488351232 := by
  obtain ⟨fuel, hf⟩ := h
  have he := Tryd.underlying49
  rcases Deep.open_slice_pairs Tryd.underlying40 he (by kernel_rfl) rfl rfl (by kernel_rfl) (by kernel_rfl) hf with ⟨hcs, _⟩ | ⟨x, l, c, mm, n, V0, V1, D0, D1, P0, P1, hcs, _, hl, hm, hmm, hx, hcell⟩
  · simp [Value.cells] at hcs
    obtain ⟨rfl, rfl, rfl⟩ := hcs
    exact ⟨fun _ => ⟨0, none, 0, 0, fun _ => 0⟩, .inl rfl, fun _ => ⟨rfl, rfl⟩, Nat.le_refl _, by omega⟩
  · simp [Value.cells] at hcs
    obtain ⟨rfl, rfl, rfl⟩ := hcs
    rw [if_pos rfl] at hmm
    subst hmm
    simp only [Prod.mk.injEq] at hx
    obtain ⟨rfl, rfl⟩ := hx
    have hb : Tryd.prog.bytesOf 49 = 32 := by kernel_rfl
    have hw0 := hsz ((len + (mm - len)) * 32) (by
      simp only [DataW.weights, Tryd.underlying40, List.length_map, List.length_range, hb]
      exact List.mem_cons_self ..)
    have each : ∀ i, i < len → ∃ t : Int × Option Addr × Nat × Nat × (Nat → Int), w.cell? (x.add (i * 2)) = some (.int .u8 t.1) ∧ w.cell? (x.add (i * 2 + 1)) = some (.slice t.2.1 t.2.2.1 t.2.2.2.1) ∧ ItOk w ⟨t.1, t.2.1, t.2.2.1, t.2.2.2.1, t.2.2.2.2⟩ := by
      intro i hi
      obtain ⟨e0, e1, t0, t1⟩ := hcell i (by omega)
      obtain ⟨ty, ety, _, wty⟩ := DataW.trod_int Tryd.underlying5 t0
      have hty : V0 i = .int .u8 ty := by simpa using ety
      have hwt : ∀ k ∈ (D1 i).weights Tryd.prog 22, k ≤ 140737488351232 := by
        intro k hk
        refine hsz k ?_
        simp only [DataW.weights, Tryd.underlying40]
        refine List.mem_cons_of_mem _ (List.mem_append_left _ (mem_weightsAll (d := .agg [D0 i, D1 i]) (List.mem_map.2 ⟨i, by simpa using hi, rfl⟩) k ?_))
        simp only [DataW.weights, he]
        exact DataW.weights_mem_each (j := 1) (t := 22) (d := D1 i) rfl rfl k hk
      rcases open_ints Tryd.underlying22 Tryd.underlying5 (by kernel_rfl) t1 with ⟨hcs, _⟩ | ⟨y, l, c, zs, hcs, _, hl', hm', hz', hx', hc', hwz⟩
      · have hv : V1 i = .slice none 0 0 := by simpa using hcs
        rw [hty] at e0
        rw [hv] at e1
        exact ⟨(ty, none, 0, 0, fun _ => 0), e0, e1, wf_u8 wty, ⟨.inl rfl, fun _ => by simp⟩, fun _ => ⟨rfl, rfl⟩, by simp⟩
      · have hv : V1 i = .slice (some y) l c := by simpa using hcs
        rw [hty] at e0
        rw [hv] at e1
        rw [if_pos rfl] at hz'
        obtain ⟨hr, hn⟩ := isRow_rd (w := w) (A := some y) (len := l) (cap := c) (zs := zs) (.inr ⟨y, rfl, hl', hm', hz', hc', hwz⟩)
        have hD : D1 i = .slice (lits .u8 (zs.take l)) (lits .u8 (zs.drop l)) := by
          have := congrArg Prod.fst hx'
          simpa using this
        have hbb : Tryd.prog.bytesOf 5 = 1 := by kernel_rfl
        have hw1 := hwt ((l + (c - l)) * 1) (by
          rw [hD]
          simp only [DataW.weights, Tryd.underlying22, lits, List.length_map, List.length_take, List.length_drop, hz', hbb, Nat.min_eq_left hl']
          exact List.mem_cons_self ..)
        exact ⟨(ty, some y, l, c, fun j => zs.getD j 0), e0, e1, wf_u8 wty, hr, fun e => (by cases e), by show l ≤ _; omega⟩
    obtain ⟨f, hf'⟩ := Deep.choose_lt each
    refine ⟨fun i => ⟨(f i).1, (f i).2.1, (f i).2.2.1, (f i).2.2.2.1, (f i).2.2.2.2⟩, ?_, fun e => (by cases e), hl, by omega⟩
    rcases Nat.eq_zero_or_pos len with h0 | h0
    · exact .inl h0
    · obtain ⟨b, off, spot⟩ := x
      have hc0 := (hf' 0 h0).1
      have hs : spot = none := by simpa [Addr.add] using World.cell?_spot hc0
      subst hs
      have hadd : ∀ j, (⟨b, off, none⟩ : Addr).add j = ⟨b, off + j, none⟩ := fun j => by unfold Addr.add; split <;> simp_all
      refine .inr ⟨b, off, rfl, ?_, fun j hj => ?_⟩
      · have := cell_lt hc0
        simpa [hadd] using this
      · obtain ⟨h1, h2, h3⟩ := hf' j hj
        rw [hadd] at h1 h2
        exact ⟨h1, by rw [← Nat.add_assoc] at h2; exact h2, h3⟩
end Go.Proofs.YtccoicjmmeoggaaDoor

/- A packet that came in as an argument can be read. No condition. -/
namespace Go.Proofs.YtccoicjmmeoggaaDoor
open Go.RowKit Go.ChangeShapes Go.WideShapes
set_option linter.unusedVariables false

section
variable {H : Type} {enc : TypeId × Value → H} {w : World} {base : Nat} {spare : Nat → Bool} {held : Bool} {m : Nat} {cs : List Value}
theorem cell_i64 {k : Nat} {o : Option (DataW H × List MemPlace)} (h : DataW.trod enc Tryd.prog w base spare held m 3 ((cs.drop k).take 1) = o) (ho : o.isSome = true) : ∃ a : Int, cs[k]? = some (.int .i64 a) ∧ -9223372036854775808 ≤ a ∧ a ≤ 9223372036854775807 := by
  obtain ⟨y, rfl⟩ := Option.isSome_iff_exists.1 ho
  obtain ⟨a, ea, _, wa⟩ := DataW.trod_int Tryd.underlying3 h
  refine ⟨a, ?_, wf_i64 wa⟩
  have := congrArg (·[0]?) ea
  simpa [List.getElem?_take, List.getElem?_drop] using this
theorem cell_u32 {k : Nat} {o : Option (DataW H × List MemPlace)} (h : DataW.trod enc Tryd.prog w base spare held m 39 ((cs.drop k).take 1) = o) (ho : o.isSome = true) : ∃ a : Int, cs[k]? = some (.int .u32 a) ∧ 0 ≤ a ∧ a ≤ 4294967295 := by
  obtain ⟨y, rfl⟩ := Option.isSome_iff_exists.1 ho
  obtain ⟨a, ea, _, wa⟩ := DataW.trod_int Tryd.underlying39 h
  refine ⟨a, ?_, wf_u32 wa⟩
  have := congrArg (·[0]?) ea
  simpa [List.getElem?_take, List.getElem?_drop] using this
theorem node_run {e : Nat} {o : Option (DataW H × List MemPlace)} (h : DataW.trod enc Tryd.prog w base spare held m 36 ((cs.drop e).take 7) = o) (ho : o.isSome = true) : ∃ z : Nat → Int, (∀ i, i < 7 → cs[e + i]? = some (.int .u8 (z i))) ∧ ∀ i, 0 ≤ z i ∧ z i ≤ 255 := by
  obtain ⟨y, rfl⟩ := Option.isSome_iff_exists.1 ho
  have hc6 : Tryd.prog.cellsOf 34 = 6 := by kernel_rfl
  have hc1 : Tryd.prog.cellsOf 5 = 1 := by kernel_rfl
  obtain ⟨ys, m2, _, _, _, hny, hey⟩ := DataW.trod_struct Tryd.underlying36 h
  have hny : ys.length = 2 := hny
  have f0 : DataW.trod enc Tryd.prog w base spare held m2 34 ((((cs.drop e).take 7).drop 0).take (Tryd.prog.cellsOf 34)) = ys[0]? := hey 0 _ rfl
  have f1 : DataW.trod enc Tryd.prog w base spare held m2 5 ((((cs.drop e).take 7).drop 6).take (Tryd.prog.cellsOf 5)) = ys[1]? := hey 1 _ rfl
  rw [hc6] at f0
  rw [hc1] at f1
  obtain ⟨z, hz, hzb⟩ := bytes_run Tryd.underlying34 f0 (by rw [List.getElem?_eq_getElem (by omega)]; rfl)
  obtain ⟨p, hp, hpb⟩ := cell_u8 f1 (by rw [List.getElem?_eq_getElem (by omega)]; rfl)
  refine ⟨fun i => if i = 6 then p else z i, fun i hi => ?_, fun i => ?_⟩
  · by_cases e6 : i = 6
    · subst e6
      rw [List.getElem?_take, if_pos (by omega), List.getElem?_drop] at hp
      simpa using hp
    · have := hz i (by omega)
      rw [Nat.zero_add, List.getElem?_take, if_pos (by omega), List.getElem?_drop] at this
      simpa [e6] using this
  · show 0 ≤ (if i = 6 then p else z i) ∧ (if i = 6 then p else z i) ≤ 255
    split
    · exact hpb
    · exact hzb i
theorem id_run {e : Nat} {o : Option (DataW H × List MemPlace)} (h : DataW.trod enc Tryd.prog w base spare held m 38 ((cs.drop e).take 8) = o) (ho : o.isSome = true) : ∃ z : Nat → Int, (∀ i, i < 8 → cs[e + i]? = some (.int .u8 (z i))) ∧ ∀ i, 0 ≤ z i ∧ z i ≤ 255 := by
  obtain ⟨y, rfl⟩ := Option.isSome_iff_exists.1 ho
  have hc7 : Tryd.prog.cellsOf 36 = 7 := by kernel_rfl
  have hc1 : Tryd.prog.cellsOf 5 = 1 := by kernel_rfl
  obtain ⟨ys, m2, _, _, _, hny, hey⟩ := DataW.trod_struct Tryd.underlying38 h
  have hny : ys.length = 2 := hny
  have f0 : DataW.trod enc Tryd.prog w base spare held m2 36 ((((cs.drop e).take 8).drop 0).take (Tryd.prog.cellsOf 36)) = ys[0]? := hey 0 _ rfl
  have f1 : DataW.trod enc Tryd.prog w base spare held m2 5 ((((cs.drop e).take 8).drop 7).take (Tryd.prog.cellsOf 5)) = ys[1]? := hey 1 _ rfl
  rw [hc7] at f0
  rw [hc1] at f1
  obtain ⟨z, hz, hzb⟩ := node_run f0 (by rw [List.getElem?_eq_getElem (by omega)]; rfl)
  obtain ⟨p, hp, hpb⟩ := cell_u8 f1 (by rw [List.getElem?_eq_getElem (by omega)]; rfl)
  refine ⟨fun i => if i = 7 then p else z i, fun i hi => ?_, fun i => ?_⟩
  · by_cases e6 : i = 7
    · subst e6
      rw [List.getElem?_take, if_pos (by omega), List.getElem?_drop] at hp
      simpa using hp
    · have := hz i (by omega)
      rw [Nat.zero_add, List.getElem?_take, if_pos (by omega), List.getElem?_drop] at this
      simpa [e6] using this
  · show 0 ≤ (if i = 7 then p else z i) ∧ (if i = 7 then p else z i) ≤ 255
    split
    · exact hpb
    · exact hzb i
end
/-- a packet as an argument -/
def InP (w : World) (p : Pd) (L : Nat → It) : Prop := PdOk p ∧ RdT w p.A p.m L ∧ (p.A = none → p.m = 0 ∧ p.c = 0) ∧ p.m ≤ p.c ∧ p.c * 32 ≤ 140737488351232
set_option maxRecDepth 100000 in
set_option maxHeartbeats 2000000 in
theorem open_pdu {H : Type} {enc : TypeId × Value → H} {w : World} {base : Nat} {held : Bool} {r : Reach} {b0 : Nat} {v : Value} {d : DataW H} {ps : List MemPlace}
    (hv : Value.okWide Tryd.prog w r b0 42 v) (h : DataW.Trod enc Tryd.prog w base (fun _ => true) held 42 v d ps) (hsz : ∀ n ∈ d.weights Tryd.prog 42, n ≤ 140737488351232) :
    ∃ p L, v = .agg (pdC p) ∧ InP w p L := by
  simp only [Value.okWide, Tryd.underlying42] at hv
  obtain ⟨ca, rfl, hca, _⟩ := hv
  obtain ⟨fuel, hf⟩ := h
  have hcc : (Value.agg ca).cells.toList = ca.toList := rfl
  rw [hcc] at hf
  obtain ⟨cs, hcs⟩ : ∃ cs, ca.toList = cs := ⟨_, rfl⟩
  rw [hcs] at hf
  obtain ⟨xs, m1, _, hxd, hl, hn, hel⟩ := DataW.trod_struct Tryd.underlying42 hf
  have hn : xs.length = 14 := hn
  have hl : cs.length = 47 := by rw [hl]; kernel_rfl
  have hd : d = .agg (xs.map (·.1)) := by have := congrArg Prod.fst hxd; simpa using this
  have hc_b : Tryd.prog.cellsOf 5 = 1 := by kernel_rfl
  have hc_n : Tryd.prog.cellsOf 36 = 7 := by kernel_rfl
  have hc_i : Tryd.prog.cellsOf 3 = 1 := by kernel_rfl
  have hc_d : Tryd.prog.cellsOf 38 = 8 := by kernel_rfl
  have hc_u : Tryd.prog.cellsOf 39 = 1 := by kernel_rfl
  have hc_t : Tryd.prog.cellsOf 40 = 1 := by kernel_rfl
  have e0 : DataW.trod enc Tryd.prog w base (fun _ => true) held m1 5 ((cs.drop 0).take (Tryd.prog.cellsOf 5)) = xs[0]? := hel 0 _ rfl
  rw [hc_b] at e0
  obtain ⟨kd, hkd, bkd⟩ := cell_u8 e0 (by rw [List.getElem?_eq_getElem (by omega)]; rfl)
  have e1 : DataW.trod enc Tryd.prog w base (fun _ => true) held m1 5 ((cs.drop 1).take (Tryd.prog.cellsOf 5)) = xs[1]? := hel 1 _ rfl
  rw [hc_b] at e1
  obtain ⟨ci, hci, bci⟩ := cell_u8 e1 (by rw [List.getElem?_eq_getElem (by omega)]; rfl)
  have e2 : DataW.trod enc Tryd.prog w base (fun _ => true) held m1 36 ((cs.drop 2).take (Tryd.prog.cellsOf 36)) = xs[2]? := hel 2 _ rfl
  rw [hc_n] at e2
  obtain ⟨so, hso, bso⟩ := node_run e2 (by rw [List.getElem?_eq_getElem (by omega)]; rfl)
  have e3 : DataW.trod enc Tryd.prog w base (fun _ => true) held m1 3 ((cs.drop 9).take (Tryd.prog.cellsOf 3)) = xs[3]? := hel 3 _ rfl
  rw [hc_i] at e3
  obtain ⟨ho, hho, bho⟩ := cell_i64 e3 (by rw [List.getElem?_eq_getElem (by omega)]; rfl)
  have e4 : DataW.trod enc Tryd.prog w base (fun _ => true) held m1 5 ((cs.drop 10).take (Tryd.prog.cellsOf 5)) = xs[4]? := hel 4 _ rfl
  rw [hc_b] at e4
  obtain ⟨nu, hnu, bnu⟩ := cell_u8 e4 (by rw [List.getElem?_eq_getElem (by omega)]; rfl)
  have e5 : DataW.trod enc Tryd.prog w base (fun _ => true) held m1 5 ((cs.drop 11).take (Tryd.prog.cellsOf 5)) = xs[5]? := hel 5 _ rfl
  rw [hc_b] at e5
  obtain ⟨pr, hpr, bpr⟩ := cell_u8 e5 (by rw [List.getElem?_eq_getElem (by omega)]; rfl)
  have e6 : DataW.trod enc Tryd.prog w base (fun _ => true) held m1 36 ((cs.drop 12).take (Tryd.prog.cellsOf 36)) = xs[6]? := hel 6 _ rfl
  rw [hc_n] at e6
  obtain ⟨la, hla, bla⟩ := node_run e6 (by rw [List.getElem?_eq_getElem (by omega)]; rfl)
  have e7 : DataW.trod enc Tryd.prog w base (fun _ => true) held m1 3 ((cs.drop 19).take (Tryd.prog.cellsOf 3)) = xs[7]? := hel 7 _ rfl
  rw [hc_i] at e7
  obtain ⟨li, hli, bli⟩ := cell_i64 e7 (by rw [List.getElem?_eq_getElem (by omega)]; rfl)
  have e8 : DataW.trod enc Tryd.prog w base (fun _ => true) held m1 38 ((cs.drop 20).take (Tryd.prog.cellsOf 38)) = xs[8]? := hel 8 _ rfl
  rw [hc_d] at e8
  obtain ⟨id, hid, bid⟩ := id_run e8 (by rw [List.getElem?_eq_getElem (by omega)]; rfl)
  have e9 : DataW.trod enc Tryd.prog w base (fun _ => true) held m1 39 ((cs.drop 28).take (Tryd.prog.cellsOf 39)) = xs[9]? := hel 9 _ rfl
  rw [hc_u] at e9
  obtain ⟨sq, hsq, bsq⟩ := cell_u32 e9 (by rw [List.getElem?_eq_getElem (by omega)]; rfl)
  have e10 : DataW.trod enc Tryd.prog w base (fun _ => true) held m1 5 ((cs.drop 29).take (Tryd.prog.cellsOf 5)) = xs[10]? := hel 10 _ rfl
  rw [hc_b] at e10
  obtain ⟨bi, hbi, bbi⟩ := cell_u8 e10 (by rw [List.getElem?_eq_getElem (by omega)]; rfl)
  have e11 : DataW.trod enc Tryd.prog w base (fun _ => true) held m1 38 ((cs.drop 30).take (Tryd.prog.cellsOf 38)) = xs[11]? := hel 11 _ rfl
  rw [hc_d] at e11
  obtain ⟨st, hst, bst⟩ := id_run e11 (by rw [List.getElem?_eq_getElem (by omega)]; rfl)
  have e12 : DataW.trod enc Tryd.prog w base (fun _ => true) held m1 38 ((cs.drop 38).take (Tryd.prog.cellsOf 38)) = xs[12]? := hel 12 _ rfl
  rw [hc_d] at e12
  obtain ⟨en, hen, ben⟩ := id_run e12 (by rw [List.getElem?_eq_getElem (by omega)]; rfl)
  have e13 : DataW.trod enc Tryd.prog w base (fun _ => true) held m1 40 ((cs.drop 46).take (Tryd.prog.cellsOf 40)) = xs[13]? := hel 13 _ rfl
  rw [hc_t] at e13
  have hx13 : xs[13]? = some xs[13] := List.getElem?_eq_getElem (by omega)
  rw [hx13] at e13
  have hsl : ∃ a len cap, cs[46]? = some (.slice a len cap) := by
    have hone : (cs.drop 46).take 1 = [cs[46]] := by
      rw [List.drop_eq_getElem_cons (by omega), List.take_succ_cons, List.take_zero]
    rcases Deep.open_slice_pairs Tryd.underlying40 Tryd.underlying49 (by kernel_rfl) rfl rfl (by kernel_rfl) (by kernel_rfl) e13 with ⟨hcs', _⟩ | ⟨x, l, c, _, _, _, _, _, _, _, _, hcs', _⟩
    · rw [hone] at hcs'
      injection hcs' with hcs' _
      exact ⟨_, _, _, by rw [List.getElem?_eq_getElem (by omega), hcs']⟩
    · rw [hone] at hcs'
      injection hcs' with hcs' _
      exact ⟨_, _, _, by rw [List.getElem?_eq_getElem (by omega), hcs']⟩
  obtain ⟨a, len, cap, htl⟩ := hsl
  have h13 : DataW.Trod enc Tryd.prog w base (fun _ => true) held 40 (.slice a len cap) xs[13].1 xs[13].2 := by
    refine ⟨m1, ?_⟩
    have hone : (cs.drop 46).take 1 = [.slice a len cap] := by
      rw [List.drop_eq_getElem_cons (by omega), List.take_succ_cons, List.take_zero]
      rw [List.getElem?_eq_getElem (by omega)] at htl
      injection htl with htl
      rw [htl]
    rw [hone] at e13
    exact e13
  obtain ⟨L, hL1, hL2, hL3, hL4⟩ := open_tlvs h13 (fun n hn' => hsz n (by
    rw [hd]
    simp only [DataW.weights, Tryd.underlying42]
    exact DataW.weights_mem_each (j := 13) (t := 40) (d := xs[13].1) rfl (by simp [hx13]) n hn'))
  refine ⟨⟨kd, ci, so, ho, nu, pr, la, li, id, sq.toNat, bi, st, en, a, len, cap⟩, L, ?_, ⟨⟨bkd, bci, bso, bho, bnu, bpr, bla⟩, bli, bid, (by show sq.toNat ≤ _; omega), bbi, bst, ben⟩, hL1, hL2, hL3, hL4⟩
  congr 1
  apply Array.ext_getElem?
  intro i
  rw [← Array.getElem?_toList, hcs]
  rcases Nat.lt_or_ge i 47 with h | h
  · rcases (by omega : i = 0 ∨ i = 1 ∨ i = 2 ∨ i = 3 ∨ i = 4 ∨ i = 5 ∨ i = 6 ∨ i = 7 ∨ i = 8 ∨ i = 9 ∨ i = 10 ∨ i = 11 ∨ i = 12 ∨ i = 13 ∨ i = 14 ∨ i = 15 ∨ i = 16 ∨ i = 17 ∨ i = 18 ∨ i = 19 ∨ i = 20 ∨ i = 21 ∨ i = 22 ∨ i = 23 ∨ i = 24 ∨ i = 25 ∨ i = 26 ∨ i = 27 ∨ i = 28 ∨ i = 29 ∨ i = 30 ∨ i = 31 ∨ i = 32 ∨ i = 33 ∨ i = 34 ∨ i = 35 ∨ i = 36 ∨ i = 37 ∨ i = 38 ∨ i = 39 ∨ i = 40 ∨ i = 41 ∨ i = 42 ∨ i = 43 ∨ i = 44 ∨ i = 45 ∨ i = 46) with rfl | rfl | rfl | rfl | rfl | rfl | rfl | rfl | rfl | rfl | rfl | rfl | rfl | rfl | rfl | rfl | rfl | rfl | rfl | rfl | rfl | rfl | rfl | rfl | rfl | rfl | rfl | rfl | rfl | rfl | rfl | rfl | rfl | rfl | rfl | rfl | rfl | rfl | rfl | rfl | rfl | rfl | rfl | rfl | rfl | rfl | rfl
    · exact hkd
    · exact hci
    · exact hso 0 (by omega)
    · exact hso 1 (by omega)
    · exact hso 2 (by omega)
    · exact hso 3 (by omega)
    · exact hso 4 (by omega)
    · exact hso 5 (by omega)
    · exact hso 6 (by omega)
    · exact hho
    · exact hnu
    · exact hpr
    · exact hla 0 (by omega)
    · exact hla 1 (by omega)
    · exact hla 2 (by omega)
    · exact hla 3 (by omega)
    · exact hla 4 (by omega)
    · exact hla 5 (by omega)
    · exact hla 6 (by omega)
    · exact hli
    · exact hid 0 (by omega)
    · exact hid 1 (by omega)
    · exact hid 2 (by omega)
    · exact hid 3 (by omega)
    · exact hid 4 (by omega)
    · exact hid 5 (by omega)
    · exact hid 6 (by omega)
    · exact hid 7 (by omega)
    · rw [hsq]
      show _ = some (Value.int .u32 ((sq.toNat : Nat) : Int))
      rw [Int.toNat_of_nonneg bsq.1]
    · exact hbi
    · exact hst 0 (by omega)
    · exact hst 1 (by omega)
    · exact hst 2 (by omega)
    · exact hst 3 (by omega)
    · exact hst 4 (by omega)
    · exact hst 5 (by omega)
    · exact hst 6 (by omega)
    · exact hst 7 (by omega)
    · exact hen 0 (by omega)
    · exact hen 1 (by omega)
    · exact hen 2 (by omega)
    · exact hen 3 (by omega)
    · exact hen 4 (by omega)
    · exact hen 5 (by omega)
    · exact hen 6 (by omega)
    · exact hen 7 (by omega)
    · exact htl
  · rw [List.getElem?_eq_none (by omega), Array.getElem?_eq_none (by rw [pdC_size]; exact h)]
end Go.Proofs.YtccoicjmmeoggaaDoor

/- What the laws of pdu have in common: a copy is made and written. Each theorem states its conditions. -/
namespace Go.Proofs.YtccoicjmmeoggaaDoor
open Go.RowKit
set_option linter.unusedVariables false

theorem withT_ok {p : Pd} (hp : PdOk p) (A : Option Addr) (m c : Nat) : PdOk (withT p A m c) := hp
end Go.Proofs.YtccoicjmmeoggaaDoor

/- An LSP of which a byte is turned is no packet. Each theorem states its conditions. -/
namespace Go.Proofs.YtccoicjmmeoggaaDoor
open Go.RowKit
set_option linter.unusedVariables false

theorem RdT.cut {w : World} {A : Option Addr} {m : Nat} {L : Nat → It} (h : RdT w A m L) (k : Nat) (hk : k ≤ m) : RdT w A k L := by
  rcases h with h | ⟨b, off, rfl, h⟩
  · exact .inl (by omega)
  · exact .inr ⟨b, off, rfl, h.1, fun j hj => h.2 j (by omega)⟩
end Go.Proofs.YtccoicjmmeoggaaDoor

/- An LSP whose life alone is another one: its bytes. Each theorem states its conditions. -/
namespace Go.Proofs.YtccoicjmmeoggaaDoor
open Go.RowKit
set_option linter.unusedVariables false

/-- a packet of another life -/
def setL (p : Pd) (n : Int) : Pd := ⟨p.kd, p.ci, p.so, p.ho, p.nu, p.pr, p.la, n, p.id, p.sq, p.bi, p.st, p.en, p.A, p.m, p.c⟩
theorem setL_ok {p : Pd} (h : PdOk p) (n : Int) (hn : in64 n) : PdOk (setL p n) := ⟨h.1, hn, h.2.2⟩
theorem fit_setL (p : Pd) (n : Nat) (hn : n ≤ 65535) : fitP (setL p n) 2 = true := by
  have h8 : fitB (setL p n) 8 = true := decide_eq_true (show 0 ≤ (n : Int) ∧ (n : Int) ≤ 65535 by omega)
  show ((((((true && fitB (setL p n) 4) && fitB (setL p n) 8) && fitB (setL p n) 9) && fitB (setL p n) 10) && fitB (setL p n) 11) && fitB (setL p n) 12) = true
  rw [h8]
  rfl
theorem acc_setL (p : Pd) (n W j : Nat) (hj : j < 27) (h10 : j ≠ 10) (h11 : j ≠ 11) : accZ (setL p n) W 2 6 j = accZ p W 2 6 j := by
  rcases (by omega : j = 0 ∨ j = 1 ∨ j = 2 ∨ j = 3 ∨ j = 4 ∨ j = 5 ∨ j = 6 ∨ j = 7 ∨ j = 8 ∨ j = 9 ∨ j = 12 ∨ j = 13 ∨ j = 14 ∨ j = 15 ∨ j = 16 ∨ j = 17 ∨ j = 18 ∨ j = 19 ∨ j = 20 ∨ j = 21 ∨ j = 22 ∨ j = 23 ∨ j = 24 ∨ j = 25 ∨ j = 26) with rfl | rfl | rfl | rfl | rfl | rfl | rfl | rfl | rfl | rfl | rfl | rfl | rfl | rfl | rfl | rfl | rfl | rfl | rfl | rfl | rfl | rfl | rfl | rfl | rfl <;> rfl
theorem wZ_setL (p : Pd) (L : Nat → It) (n j : Nat) (h10 : j ≠ 10) (h11 : j ≠ 11) : wZ (setL p n) 2 L j = wZ p 2 L j := by
  by_cases hj : j < 27
  · rw [wZ_lo _ _ _ _ hj, wZ_lo _ _ _ _ hj]
    exact acc_setL p n _ j hj h10 h11
  · obtain ⟨i, rfl⟩ : ∃ i, j = hdN 2 + i := ⟨j - 27, by show j = 27 + (j - 27); omega⟩
    rw [wZ_hi, wZ_hi]
    rfl
theorem life_pd (p : Pd) (L : Nat → It) (n : Nat) (hn : n ≤ 65535) : upd (upd (pdZ p 2 L) 10 ((n : Int) / 256)) 11 ((n : Int) % 256) = pdZ (setL p n) 2 L := by
  have hw : (fun i => wZ (setL p n) 2 L (12 + i)) = fun i => wZ p 2 L (12 + i) := by
    funext i
    exact wZ_setL p L n _ (by omega) (by omega)
  have e10 : pdZ (setL p n) 2 L 10 = (n : Int) / 256 := by
    rw [pdZ_far _ _ _ _ (fun _ => by decide), wZ_lo _ _ _ _ (by decide)]
    show putZ (setL p n).li.toNat 2 0 = _
    show (((qN ((n : Int).toNat) 1) % 256 : Nat) : Int) = _
    rw [Int.toNat_natCast]
    unfold qN
    omega
  have e11 : pdZ (setL p n) 2 L 11 = (n : Int) % 256 := by
    rw [pdZ_far _ _ _ _ (fun _ => by decide), wZ_lo _ _ _ _ (by decide)]
    show (((qN ((n : Int).toNat) 0) % 256 : Nat) : Int) = _
    rw [Int.toNat_natCast, qN_0]
    omega
  funext j
  by_cases h11 : j = 11
  · subst h11
    rw [upd_same, e11]
  · rw [upd_other _ _ _ _ h11]
    by_cases h10 : j = 10
    · subst h10
      rw [upd_same, e10]
    · rw [upd_other _ _ _ _ h10]
      show sgZ (wZ p 2 L) _ j = sgZ (wZ (setL p n) 2 L) _ j
      unfold sgZ
      rw [hw, wZ_setL p L n j h10 h11]
      rfl
end Go.Proofs.YtccoicjmmeoggaaDoor

/- Packets with other lists that are alike; Plain of every kind. Each theorem states its conditions. -/
namespace Go.Proofs.YtccoicjmmeoggaaDoor
open Go.RowKit
set_option linter.unusedVariables false

def AlikeL (m : Nat) (L L' : Nat → It) : Prop := ∀ j, j < m → (L j).ty = (L' j).ty ∧ (L j).n = (L' j).n ∧ ∀ i, i < (L j).n → (L j).z i = (L' j).z i
theorem pdZ_items {p : Pd} {L L' : Nat → It} (h : AlikeL p.m L L') (q : Nat) (hq : q ≤ 4) : ∀ j, j < hdN q + sz L p.m → pdZ p q L' j = pdZ p q L j := by
  have hs : sz L p.m = sz L' p.m := sz_congr (m := p.m) (fun j hj => (h j hj).2.1) p.m (Nat.le_refl _)
  have h17 := hdN_bd q hq
  have hw : ∀ j, j < hdN q + sz L p.m → wZ p q L' j = wZ p q L j := fun j hj => by
    unfold wZ
    rw [hs]
    unfold cat
    split
    · rfl
    · exact (J_congr (m := p.m) (fun j hj => h j hj) p.m (Nat.le_refl _) _ (by omega)).symm
  intro j hj
  unfold pdZ
  split
  · rw [← hs]
    unfold sgZ
    rw [chkX_congr (fun i => wZ p q L' (12 + i)) (fun i => wZ p q L (12 + i)) 12 _ (fun j h1 _ _ => hw _ (by omega)),
      chkY_congr (fun i => wZ p q L' (12 + i)) (fun i => wZ p q L (12 + i)) 12 _ (fun j h1 _ _ => hw _ (by omega)), hw j hj]
  · exact hw j hj
theorem wr_items {p : Pd} {L L' : Nat → It} (m0 : Nat) (h : AlikeL p.m L L') : wrX p L' m0 = wrX p L m0 ∧ wrN p L' m0 = wrN p L m0 ∧ ∀ j, j < wrN p L m0 → wrZ p L' m0 j = wrZ p L m0 j := by
  have hs : sz L p.m = sz L' p.m := sz_congr (m := p.m) (fun j hj => (h j hj).2.1) p.m (Nat.le_refl _)
  have e1 : wrX p L' m0 = wrX p L m0 := by unfold wrX; rw [hs]
  have e2 : wrN p L' m0 = wrN p L m0 := by unfold wrN; rw [e1, hs]
  refine ⟨e1, e2, fun j hj => ?_⟩
  unfold wrZ
  rw [e1]
  by_cases h0 : wrX p L m0 = 0
  · rw [if_pos h0, if_pos h0]
    unfold wrN at hj
    rw [if_pos h0] at hj
    refine pdZ_items h _ ?_ j hj
    have hc := cls_le p.kd
    have : ¬ cls p.kd = 5 := fun h5 => by
      rw [(wr_1 p L m0 (.inl h5)).1] at h0
      exact absurd h0 (by decide)
    omega
  · rw [if_neg h0, if_neg h0]
theorem plain_any (p : Pd) (q : Nat) (hk : cls p.kd = q) (hq : q ≤ 4) (w : World) : Calls Tryd.prog 25 #[.agg (pdC p)] w fun e w' => e = .returned (.agg (pdC (plQ q p))) ∧ Below w.heap.size w w' := by
  rcases cls_cases p.kd q hk hq with ⟨h, rfl⟩ | ⟨h, rfl⟩ | ⟨h, rfl⟩ | ⟨h, rfl⟩ | ⟨h, rfl⟩ | ⟨h, rfl⟩ | ⟨h, rfl⟩ | ⟨h, rfl⟩ | ⟨h, rfl⟩
  · exact plain_0 p h w
  · exact plain_1 p (.inl h) w
  · exact plain_1 p (.inr h) w
  · exact plain_2 p (.inl h) w
  · exact plain_2 p (.inr h) w
  · exact plain_3 p (by rw [h]; decide) (by rw [h]; decide) (by rw [h]; decide) w
  · exact plain_3 p (by rw [h]; decide) (by rw [h]; decide) (by rw [h]; decide) w
  · exact plain_4 p (by rw [h]; decide) (by rw [h]; decide) (by rw [h]; decide) w
  · exact plain_4 p (by rw [h]; decide) (by rw [h]; decide) (by rw [h]; decide) w
theorem plQ_tl (q : Nat) (p : Pd) : (plQ q p).A = p.A ∧ (plQ q p).m = p.m ∧ (plQ q p).c = p.c := by
  unfold plQ; (repeat' split) <;> exact ⟨rfl, rfl, rfl⟩
end Go.Proofs.YtccoicjmmeoggaaDoor

/- mac.isSignature, the search for a signature among TLVs, checkSecret, least. Each theorem states its conditions. -/
namespace Go.Proofs.YtccoicjmmeoggaaDoor
open Go.RowKit
set_option linter.unusedVariables false

/-- the cells of one of a list -/
def itC (t : It) : Array Value := #[.int .u8 t.ty, .slice t.A t.n t.c]
theorem itC_one (t : It) : (itC t).all (·.oneCell') = true := by kernel_rfl
theorem info_it : (Tryd.prog.info? 49).map (·.size) = some 2 := by kernel_rfl
theorem rowT_rng {w : World} {b off m : Nat} {L : Nat → It} (h : RowT w b off m L) (j : Nat) (hj : j < m) : w.rangeAt b (off + j * 2) (itC (L j)).toList := by
  obtain ⟨c0, c1, _⟩ := h.2 j hj
  intro i u hu
  match i, hu with
  | 0, hu => injection hu with hu; rw [← hu]; exact c0
  | 1, hu => injection hu with hu; rw [← hu]; exact c1
  | i + 2, hu => cases hu
set_option maxHeartbeats 4000000 in
set_option maxRecDepth 100000 in
theorem isSig_any (t : It) (w : World) :
    Calls Tryd.prog 40 #[.agg (itC t)] w fun e w' => e = .returned (.bool (t.ty == 10)) ∧ Below w.heap.size w w' := by
  go_enter Tryd.func40, Tryd.ntmps40
  have HB := Lib.hid (Below.refl w.heap.size w)
  obtain ⟨N1, hN1⟩ : ∃ N, w.heap.size = N := ⟨_, rfl⟩
  have HN1 := Lib.hid hN1
  clear hN1
  go_wp2_with (refine wpList_box (op := ⟨some 1, _, _, _, _, _⟩) rfl 49 (.tmp 0) rfl (itC t) rfl N1 HN1.out ?_; intro w1 k1 b1 s1; refine Hid.out ?_)
  refine Lib.hid ?_
  have K1 := Lib.hid k1
  clear k1
  have HBn := Lib.hid (HB.out.trans (b1.mono HB.out.size))
  clear HB
  have HB := HBn
  clear HBn
  clear b1 HN1
  have c1 : w1.cell? ⟨N1, 0, none⟩ = some (.int .u8 t.ty) := (K1.out.cell 0).trans rfl
  go_wp2_with fail
  go_ret
  exact ⟨by simp, HB.out⟩
/-- there is one among the first n; none is -/
def NoSig (L : Nat → It) (n : Nat) : Prop := ∀ j, j < n → (L j).ty ≠ 10
def AtSig (L : Nat → It) (n k : Nat) : Prop := k < n ∧ (L k).ty = 10 ∧ NoSig L k
theorem noSig_next {L : Nat → It} {k : Nat} (h : NoSig L k) (hq : ((L k).ty == 10) = false) : NoSig L (k + 1) := by
  intro j hj
  by_cases e : j = k
  · subst e; simpa using hq
  · exact h j (by omega)
def IdxS (L : Nat → It) (n : Nat) (w : World) (e : Ending) (w' : World) : Prop := ∃ r : Int, e = .returned (.int .i64 r) ∧ ((∃ k : Nat, r = (k : Int) ∧ AtSig L n k) ∨ (r = -1 ∧ NoSig L n)) ∧ Below w.heap.size w w'
def ConS (L : Nat → It) (n : Nat) (w : World) (e : Ending) (w' : World) : Prop := ∃ q : Bool, e = .returned (.bool q) ∧ ((q = true ∧ ∃ k, AtSig L n k) ∨ (q = false ∧ NoSig L n)) ∧ Below w.heap.size w w'
set_option maxHeartbeats 4000000 in
set_option maxRecDepth 100000 in
theorem idxS_any (A : Option Addr) (n c : Nat) (L : Nat → It) (w : World) (hR : RdT w A n L) (hn : n ≤ 140737488351232) :
    Calls Tryd.prog 65 #[.slice A n c, .func (.func 40) #[] #[]] w (IdxS L n w) := by
  rcases Nat.eq_zero_or_pos n with rfl | hpos
  · clear hR
    go_enter Tryd.func65, Tryd.ntmps65
    go_wp2
    refine wp_loop_rounds 1 ?_
    rw [rounds_succ]
    go_wp2
    go_ret
    exact ⟨-1, rfl, .inr ⟨rfl, fun j hj => by omega⟩, Below.refl _ _⟩
  · obtain ⟨b, off, rfl, hr⟩ := hR.row hpos
    have HR := Lib.hid hr
    clear hR hr
    go_enter Tryd.func65, Tryd.ntmps65
    have HB := Lib.hid (Below.refl w.heap.size w)
    go_wp2_with fail
    go_loopw [8] (fun t wr => ∃ k : Nat, k ≤ n ∧ t = .int .i64 k ∧ Hid (NoSig L k) ∧ Hid (Below w.heap.size w wr)) (fun t _ => n - (intOf t).toNat)
    case atStart => exact ⟨0, by omega, rfl, Lib.hid (fun j hj => absurd hj (Nat.not_lt_zero _)), HB⟩
    case round =>
      obtain ⟨k, hk, rfl, HA, HW⟩ := hrel
      by_cases hlt : k < n
      · have hki : (k : Int) < (n : Int) := by omega
        have h1 : Hid (wr.rangeAt b (off + k * 2) (itC (L k)).toList) := Lib.hid (rangeAt_below (rowT_rng HR.out k hlt) HW.out HR.out.1)
        go_wp2_with (refine wpList_ld (op := ⟨some 15, _, _, _, _, _⟩) (by rfl) 49 (.tmp 14) rfl b (off + k * 2) rfl (itC (L k)) _ h1.out Tryd.underlying49 rfl info_it ?_; refine Hid.out ?_)
        refine Lib.hid ?_
        clear h1
        go_wp2_with fail
        refine (isSig_any (L k) wr).mono ?_
        rintro e w2 ⟨rfl, b1⟩
        have HW2 := Lib.hid (HW.out.trans (b1.mono HW.out.size))
        clear b1
        cases hq : (L k).ty == 10 with
        | true =>
          go_wp2_with fail
          go_ret
          exact ⟨k, rfl, .inl ⟨k, rfl, hlt, by simpa using hq, HA.out⟩, HW2.out⟩
        | false =>
          go_wp2_with fail
          go_roundw
          case rel => exact ⟨k + 1, by omega, by go_num, Lib.hid (noSig_next HA.out hq), HW2⟩
          case measure => simp only [intOf]; omega
      · obtain rfl : k = n := by omega
        go_wp2_with fail
        go_ret
        exact ⟨-1, rfl, .inr ⟨rfl, HA.out⟩, HW.out⟩
set_option maxHeartbeats 4000000 in
set_option maxRecDepth 100000 in
theorem conS_any (A : Option Addr) (n c : Nat) (L : Nat → It) (w : World) (hR : RdT w A n L) (hn : n ≤ 140737488351232) :
    Calls Tryd.prog 39 #[.slice A n c, .func (.func 40) #[] #[]] w (ConS L n w) := by
  go_enter Tryd.func39, Tryd.ntmps39
  go_wp2_with fail
  refine (idxS_any A n c L w hR hn).mono ?_
  rintro e w2 ⟨r, rfl, hr, hb⟩
  have HR := Lib.hid hr
  have HB := Lib.hid hb
  clear hR hr hb
  go_wp2_with fail
  go_ret
  refine ⟨decide (0 ≤ r), by simp, ?_, HB.out⟩
  rcases HR.out with ⟨k, rfl, h1⟩ | ⟨rfl, h1⟩
  · exact .inl ⟨decide_eq_true (by omega), k, h1⟩
  · exact .inr ⟨rfl, h1⟩
/-- what keeps a secret of n bytes from signing -/
def secE (n : Nat) : Int := if 64 < n then 2 else if n = 0 then 3 else 0
theorem secE_bd (n : Nat) : 0 ≤ secE n ∧ secE n ≤ 3 := by unfold secE; (repeat' split) <;> omega
set_option maxHeartbeats 4000000 in
set_option maxRecDepth 100000 in
theorem secret_any (A : Option Addr) (n c : Nat) (w : World) :
    Calls Tryd.prog 38 #[.slice A n c] w fun e w' => e = .returned (.int .i64 (secE n)) ∧ w' = w := by
  by_cases h1 : 64 < n
  · have h1' : (64 : Int) < (n : Int) := by omega
    have hE : Hid (secE n = 2) := Lib.hid (by unfold secE; rw [if_pos h1])
    clear h1
    go_enter Tryd.func38, Tryd.ntmps38
    go_wp2_with fail
    go_ret
    exact ⟨by rw [hE.out]; rfl, rfl⟩
  · have h1' : ¬ (64 : Int) < (n : Int) := by omega
    rcases Nat.eq_zero_or_pos n with rfl | h2
    · go_enter Tryd.func38, Tryd.ntmps38
      go_wp2_with fail
      go_ret
      exact ⟨rfl, rfl⟩
    · have hE : Hid (secE n = 0) := Lib.hid (by unfold secE; rw [if_neg h1, if_neg (by omega)])
      have h2' : ((n : Int) == 0) = false := by simp; omega
      clear h1 h2
      go_enter Tryd.func38, Tryd.ntmps38
      go_wp2_with fail
      go_ret
      exact ⟨by rw [hE.out]; rfl, rfl⟩
/-- the lesser of two errors, if there are two -/
def lea (a b : Int) : Int := if a = 0 then b else if b = 0 then a else if a ≤ b then a else b
theorem lea_bd {a b : Int} (ha : 0 ≤ a ∧ a ≤ 20) (hb : 0 ≤ b ∧ b ≤ 20) : 0 ≤ lea a b ∧ lea a b ≤ 20 := by unfold lea; (repeat' split) <;> omega
set_option maxHeartbeats 4000000 in
set_option maxRecDepth 100000 in
theorem least_any (a b : Int) (w : World) (ha : 0 ≤ a ∧ a ≤ 20) (hb : 0 ≤ b ∧ b ≤ 20) :
    Calls Tryd.prog 37 #[.int .i64 a, .int .i64 b] w fun e w' => e = .returned (.int .i64 (lea a b)) ∧ w' = w := by
  obtain ⟨m, rfl⟩ : ∃ m : Nat, a = (m : Int) := ⟨a.toNat, by omega⟩
  obtain ⟨n, rfl⟩ : ∃ n : Nat, b = (n : Int) := ⟨b.toNat, by omega⟩
  by_cases h1 : m = 0
  · subst h1
    have hE : Hid (lea ((0 : Nat) : Int) (n : Int) = (n : Int)) := Lib.hid (by unfold lea; exact if_pos (by omega))
    clear ha hb
    go_enter Tryd.func37, Tryd.ntmps37
    go_wp2_with fail
    all_goals (go_ret; refine ⟨?_, rfl⟩; have h9 := (show lea 0 (n : Int) = (n : Int) from hE.out); refine congrArg (fun q => Ending.returned (.int .i64 q)) ?_; first | omega | (split at h9 <;> first | omega | (simp; omega) | (split <;> omega)) | (simp; omega))
  · have h1' : ((m : Int) == 0) = false := by simp; omega
    by_cases h2 : n = 0
    · subst h2
      have hE : Hid (lea (m : Int) ((0 : Nat) : Int) = (m : Int)) := Lib.hid (by unfold lea; rw [if_neg (by omega)]; exact if_pos (by omega))
      clear ha hb h1
      go_enter Tryd.func37, Tryd.ntmps37
      go_wp2_with fail
      all_goals (go_ret; refine ⟨?_, rfl⟩; have h9 := hE.out; refine congrArg (fun q => Ending.returned (.int .i64 q)) ?_; first | omega | (split at h9 <;> first | omega | (simp; omega) | (split <;> omega)) | (simp; omega))
    · have h2' : ((n : Int) == 0) = false := by simp; omega
      have hE : Hid (lea (m : Int) (n : Int) = if (m : Int) ≤ n then (m : Int) else n) := Lib.hid (by unfold lea; rw [if_neg (by omega), if_neg (by omega)])
      clear ha hb h1 h2
      go_enter Tryd.func37, Tryd.ntmps37
      go_wp2_with fail
      all_goals (go_ret; refine ⟨?_, rfl⟩; have h9 := hE.out; refine congrArg (fun q => Ending.returned (.int .i64 q)) ?_; first | omega | (split at h9 <;> first | omega | (simp; omega) | (split <;> omega)) | (simp; omega))
end Go.Proofs.YtccoicjmmeoggaaDoor

/- One list of TLVs behind another. Each theorem states its conditions. -/
namespace Go.Proofs.YtccoicjmmeoggaaDoor
open Go.RowKit
set_option linter.unusedVariables false

/-- append of a slice that may be nil -/
theorem wpList_append_any {P : Program} {w : World} {ops : Array Oper} {rest : List Oper} {o : Oper} {a : Act} {Q : Exit → Act → World → Prop} (hgd : o.guard = none) (s x : Operand) (t : TypeId)
    (ho : o.op = .call { callee := .builtin .append, args := #[s, x], argTypes := #[t, t] })
    (base : Nat) (e : TypeId) (i : TypeInfo) (z : Value) (size bytes : Nat) (ht : P.underlying t = some (.slice e)) (hi : P.info? e = some i) (hz : i.zero = some z)
    (hsize : i.size = size) (hby : i.bytes = bytes) (hzs : z.cells.size = size) (hsz : 0 < size)
    (v : Value) (n : Nat) (xs : List Value) (hs : a.eval s = v) (hown : w.ownsRow base e size v n xs)
    (ao : Option Addr) (m c : Nat) (news : List Value) (hx : a.eval x = .slice ao m c) (hl : news.length = m * size) (hnone : ao = none → m = 0 ∧ c = 0) (hnews : ∀ ad, ao = some ad → ∀ j u, news[j]? = some u → w.cell? (ad.add j) = some u) (h1 : ∀ u ∈ news, u.oneCell' = true)
    (h63 : n + m ≤ maxLen) (hbytes : (n + m) * bytes ≤ 140737488355328) (hbase : base ≤ w.heap.size)
    (h : ∀ v' w', w'.ownsRow base e size v' (n + m) (xs ++ news) → w.grownBy w' v.ownBlock → wpList P ops Q rest (a.put o.dst v') w') :
    wpList P ops Q (o :: rest) a w := by
  rcases ao with _ | ad
  · obtain ⟨rfl, rfl⟩ := hnone rfl
    have hn : news = [] := List.eq_nil_of_length_eq_zero (by simpa using hl)
    subst hn
    exact wpList_append_own_none hgd s x t ho base e i size ht hi v n xs hs hown hx (h v w (by simpa using hown) (World.grownBy.refl _ _))
  · exact wpList_append_own_at _ hgd s x t ho base e i z size bytes ht hi hz hsize hby hzs hsz v n xs hs hown ad m c news hx hl (hnews ad rfl) h1 h63 hbytes hbase (fun v' w' a b _ _ => h v' w' a b)
/-- m items, and others behind them -/
def catT (L : Nat → It) (m : Nat) (M : Nat → It) : Nat → It := fun j => if j < m then L j else M (j - m)
theorem catT_lo (L : Nat → It) (m j : Nat) (M : Nat → It) (h : j < m) : catT L m M j = L j := by simp [catT, h]
theorem catT_hi (L : Nat → It) (m j : Nat) (M : Nat → It) : catT L m M (m + j) = M j := by
  unfold catT; rw [if_neg (by omega)]; congr 1; omega
theorem cellsT_cat (L M : Nat → It) (m k : Nat) : cellsT L m ++ cellsT M k = cellsT (catT L m M) (m + k) := by
  induction k with
  | zero =>
    simp only [cellsT, List.append_nil, Nat.add_zero]
    exact cellsT_congr _ _ _ (fun j hj => by rw [catT_lo _ _ _ _ hj]; exact ⟨rfl, rfl, rfl, rfl⟩)
  | succ k ih =>
    rw [← Nat.add_assoc]
    simp only [cellsT, ← List.append_assoc, ih, catT_hi]
/-- the cells of a list that can be read -/
theorem rdT_news {w : World} {A : Option Addr} {m : Nat} {L : Nat → It} (h : RdT w A m L) : ∀ ad, A = some ad → ∀ j u, (cellsT L m)[j]? = some u → w.cell? (ad.add j) = some u := by
  intro ad hA j u hu
  have hl := cellsT_len L m
  have hj : j < m * 2 := by
    rcases Nat.lt_or_ge j (m * 2) with h | h
    · exact h
    · rw [List.getElem?_eq_none (by omega)] at hu; cases hu
  obtain ⟨b, off, e, hr⟩ := h.row (by omega)
  rw [hA] at e
  injection e with e
  subst e
  have hadd : (⟨b, off, none⟩ : Addr).add j = ⟨b, off + j, none⟩ := by unfold Addr.add; split <;> simp_all
  rw [hadd]
  obtain ⟨g0, g1, _⟩ := hr.2 (j / 2) (by omega)
  obtain ⟨x0, x1⟩ := cellsT_at L m (j / 2) (by omega)
  rcases (by omega : j = j / 2 * 2 ∨ j = j / 2 * 2 + 1) with e | e
  · rw [← e] at g0 x0
    rw [hu] at x0
    rw [g0, x0]
  · rw [← e] at x1
    rw [show off + j = off + j / 2 * 2 + 1 by omega, g1]
    rw [hu] at x1
    rw [x1]
theorem ownsRow_le' {w : World} {base base' size n : Nat} {e : TypeId} {v : Value} {xs : List Value} (h : w.ownsRow base e size v n xs) (hb : base' ≤ base) : w.ownsRow base' e size v n xs :=
  ⟨h.1, h.2.elim Or.inl (fun ⟨g, cap, cur, hv, hg, r⟩ => Or.inr ⟨g, cap, cur, hv, Nat.le_trans hb hg, r⟩)⟩
theorem OwnT.le {w : World} {base base' m : Nat} {v : Value} {L : Nat → It} (h : OwnT w base v m L) (hb : base' ≤ base) : OwnT w base' v m L :=
  ⟨ownsRow_le' h.1 hb, fun j hj => (h.2 j hj).mono hb⟩
end Go.Proofs.YtccoicjmmeoggaaDoor

/- slices.Grow and slices.Concat, of bytes and of TLVs. Each theorem states its conditions. -/
namespace Go.Proofs.YtccoicjmmeoggaaDoor
open Go.RowKit
set_option linter.unusedVariables false

set_option maxRecDepth 100000 in
/-- 'append(nil, make([]T, k)...)' -/
theorem wpList_nz {ops : Array Oper} {rest : List Oper} {op : Oper} {a : Act} {w : World} {Q : Exit → Act → World → Prop} (hgd : op.guard = none) (s x : Operand) (t e : TypeId)
    (ho : op.op = .call { callee := .builtin .append, args := #[s, x], argTypes := #[t, 3] })
    (i : TypeInfo) (z : Value) (size : Nat) (ht : Tryd.prog.underlying t = some (.slice e)) (hi : Tryd.prog.info? e = some i) (hz : i.zero = some z) (hzs : z.cells.size = size) (hsi : i.size = size) (hsz : 0 < size)
    (k : Nat) (h0 : 0 < k) (h48 : k * i.bytes ≤ 281474976710656) (hm : k ≤ maxLen) (hs : a.eval s = .slice none 0 0) (hx : a.eval x = .int .i64 (k : Int)) (N : Nat) (hN : w.heap.size = N)
    (h : ∀ cap w' cur, w'.heap[N]? = some (.cells cur e (0, 0)) → cur.size = cap * size → k ≤ cap → cap ≤ maxLen → Below w.heap.size w w' → wpList Tryd.prog ops Q rest (a.put op.dst (.slice (some ⟨N, 0, none⟩) k cap)) w') :
    wpList Tryd.prog ops Q (op :: rest) a w := by
  subst hN
  have htn := Tryd.underlying3
  have hr := Lib.run_append_nil_zeros (P := Tryd.prog) w t 3 op.type e i z .i64 .i64 ht htn hi hz k h0 (by omega) (by unfold maxLen at hm; omega) h48
  have hge := grownCap_ge w k 0 e
  refine wpList_plain hgd fun K hK => ?_
  unfold Oper.wp execOp
  simp only [ho, resolve, invoke, builtin, Sem.run_bind, Sem.run_pure, Result.andThen_ok, List.map_toArray, List.map_cons, List.map_nil, hs, hx, hr, Oper.upon_value]
  refine hK _ _ (h _ _ _ (heap_alloc_new w.drew _) ?_ hge (grownCap_le_maxLen w k 0 e hm) ((Below.refl _ _).drew.alloc (Nat.le_refl _) _))
  rw [Array.size_append, size_zeroCells, size_zeroCells, hzs, ← Nat.add_mul]
  congr 1
  omega
theorem row_none {w : World} {base g cap size : Nat} {e : TypeId} {cur : Array Value} (hg : w.heap[g]? = some (.cells cur e (0, 0))) (hb : base ≤ g) (hc : cur.size = cap * size) (hm : cap ≤ maxLen) : w.ownsRow base e size (.slice (some ⟨g, 0, none⟩) 0 cap) 0 [] :=
  ⟨by simp, .inr ⟨g, cap, cur, rfl, hb, hg, Nat.zero_le _, hm, hc, by simp⟩⟩
set_option maxHeartbeats 4000000 in
set_option maxRecDepth 100000 in
theorem growB_any (k : Nat) (w : World) (h0 : 0 < k) (hb : k * 1 ≤ 140737488355328) :
    Calls Tryd.prog 89 #[.slice none 0 0, .int .i64 (k : Int)] w fun e w' => ∃ v, e = .returned v ∧ w'.ownsRow w.heap.size 5 1 v 0 [] ∧ Below w.heap.size w w' := by
  obtain ⟨i0, hi, hz0, hz1, hz2⟩ := info_parts info_u8
  have k1 : ¬ (k : Int) < 0 := by omega
  have k2 : (0 : Int) < (k : Int) := by omega
  have k3 : IntKind.i64.wrap ((k : Int)) = (k : Int) := by rw [IntKind.wrap_i64]; omega
  obtain ⟨N1, hN1⟩ : ∃ N, w.heap.size = N := ⟨_, rfl⟩
  have HN1 := Lib.hid hN1
  clear hN1
  go_enter Tryd.func89, Tryd.ntmps89
  go_wp2_with (at_builtin; refine wpList_nz rfl (.tmp 20) (.tmp 21) 22 5 rfl i0 (.int .u8 0) 1 Tryd.underlying22 hi hz0 rfl hz1 (by decide) k h0 (by rw [hz2]; omega) (by unfold maxLen; omega) rfl rfl N1 HN1.out ?_; intro cap w1 cur q1 q2 q3 q4 b1; refine Hid.out ?_)
  refine Lib.hid ?_
  have Q1 := Lib.hid (And.intro q1 (And.intro q2 (And.intro q4 b1)))
  clear q1 q2 q4 b1
  go_wp2_with fail
  go_ret
  exact ⟨_, rfl, row_none Q1.out.1 (Nat.le_of_eq HN1.out) Q1.out.2.1 Q1.out.2.2.1, Q1.out.2.2.2⟩
set_option maxHeartbeats 4000000 in
set_option maxRecDepth 100000 in
theorem growT_any (k : Nat) (w : World) (h0 : 0 < k) (hb : k * 32 ≤ 140737488355328) :
    Calls Tryd.prog 88 #[.slice none 0 0, .int .i64 (k : Int)] w fun e w' => ∃ v, e = .returned v ∧ w'.ownsRow w.heap.size 49 2 v 0 [] ∧ Below w.heap.size w w' := by
  obtain ⟨i0, hi, hz0, hz1, hz2⟩ := info_parts info_tlv
  have k1 : ¬ (k : Int) < 0 := by omega
  have k2 : (0 : Int) < (k : Int) := by omega
  have k3 : IntKind.i64.wrap ((k : Int)) = (k : Int) := by rw [IntKind.wrap_i64]; omega
  obtain ⟨N1, hN1⟩ : ∃ N, w.heap.size = N := ⟨_, rfl⟩
  have HN1 := Lib.hid hN1
  clear hN1
  go_enter Tryd.func88, Tryd.ntmps88
  go_wp2_with (at_builtin; refine wpList_nz rfl (.tmp 20) (.tmp 21) 40 49 rfl i0 (.agg #[.int .u8 0, .slice none 0 0]) 2 Tryd.underlying40 hi hz0 rfl hz1 (by decide) k h0 (by rw [hz2]; omega) (by unfold maxLen; omega) rfl rfl N1 HN1.out ?_; intro cap w1 cur q1 q2 q3 q4 b1; refine Hid.out ?_)
  refine Lib.hid ?_
  have Q1 := Lib.hid (And.intro q1 (And.intro q2 (And.intro q4 b1)))
  clear q1 q2 q4 b1
  go_wp2_with fail
  go_ret
  exact ⟨_, rfl, row_none Q1.out.1 (Nat.le_of_eq HN1.out) Q1.out.2.1 Q1.out.2.2.1, Q1.out.2.2.2⟩
/-- how many the first k have together; their bytes one behind the other -/
def sumS (S : Nat → It) : Nat → Nat
  | 0 => 0
  | k + 1 => sumS S k + (S k).n
def joinS (S : Nat → It) : Nat → Nat → Int
  | 0 => nou
  | k + 1 => catZ (joinS S k) (sumS S k) (S k).z
theorem sumS_le (S : Nat → It) (k : Nat) : ∀ m, k ≤ m → sumS S k ≤ sumS S m := by
  intro m hm
  induction m with
  | zero =>
      obtain rfl : k = 0 := (by omega)
      exact Nat.le_refl _
  | succ m ih =>
    by_cases e : k = m + 1
    · subst e; exact Nat.le_refl _
    · exact Nat.le_trans (ih (by omega)) (Nat.le_add_right _ _)
set_option maxHeartbeats 8000000 in
set_option maxRecDepth 100000 in
theorem concatB_any (g m cap : Nat) (S : Nat → It) (w : World) (hc : ∀ j, j < m → w.cell? ⟨g, j, none⟩ = some (.slice (S j).A (S j).n (S j).c)) (hg : g < w.heap.size)
    (hr : ∀ j, j < m → Rd w (S j).A (S j).n (S j).z ∧ ((S j).A = none → (S j).n = 0 ∧ (S j).c = 0)) (hpos : 0 < sumS S m) (hs : sumS S m ≤ 140737488351232) (hm : m ≤ 1000) :
    Calls Tryd.prog 64 #[.slice (some ⟨g, 0, none⟩) m cap] w fun e w' => ∃ v, e = .returned v ∧ HOut w w' v (sumS S m) (joinS S m) [] := by
  have HC := Lib.hid hc
  have HR := Lib.hid hr
  have HS := Lib.hid hs
  have HPS := Lib.hid hpos
  clear hc hr hs hpos
  go_enter Tryd.func64, Tryd.ntmps64
  go_wp2_with fail
  go_loopw [3, 11] (fun t i wr => ∃ k : Nat, k ≤ m ∧ i = .int .i64 k ∧ t = .int .i64 ((sumS S k : Nat) : Int) ∧ w = wr) (fun _ i _ => m - (intOf i).toNat)
  case atStart => exact ⟨0, by omega, rfl, rfl, rfl⟩
  case round =>
    obtain ⟨k, hk, rfl, rfl, rfl⟩ := hrel
    by_cases hlt : k < m
    · have hki : (k : Int) < (m : Int) := by omega
      have c1 := HC.out k hlt
      have hs1 := sumS_le S (k + 1) m hlt
      have hs2 := HS.out
      have hs3 : sumS S (k + 1) = sumS S k + (S k).n := rfl
      obtain ⟨a, ha⟩ : ∃ a, sumS S k = a := ⟨_, rfl⟩
      obtain ⟨b, hb⟩ : ∃ b, (S k).n = b := ⟨_, rfl⟩
      rw [ha, hb] at hs3
      rw [hs3] at hs1
      rw [hb] at c1
      rw [ha]
      have hab : (a : Int) + (b : Int) ≤ 140737488351232 := by omega
      have hn : ¬ (a : Int) + (b : Int) < 0 := by omega
      have HH := Lib.hid hs3
      clear ha hb hs1 hs2 hs3
      go_wp2_with fail
      go_roundw
      case rel => exact ⟨k + 1, by omega, by go_num, by rw [HH.out]; go_num, by first | rfl | trivial⟩
      case measure => simp only [intOf]; omega
    · obtain rfl : k = m := by omega
      obtain ⟨a, ha⟩ : ∃ a, sumS S k = a := ⟨_, rfl⟩
      rw [ha]
      have HP := Lib.hid ha
      have HG := Lib.hid (growB_any a w (by rw [← ha]; exact HPS.out) (by have := HS.out; omega))
      clear ha
      go_wp2_with fail
      refine HG.out.mono ?_
      rintro e w1 ⟨v1, rfl, ho, b1⟩
      have HO : Hid (HOut w w1 v1 0 nou []) := Lib.hid ⟨⟨ho, fun _ => ⟨Int.le_refl 0, (by decide : (0 : Int) ≤ 255)⟩⟩, b1, HKp.nil _, fun p hp => by cases hp⟩
      clear ho b1 HG
      go_wp2_with fail
      go_loopw [6, 27] (fun v i wr => ∃ j : Nat, j ≤ k ∧ i = .int .i64 j ∧ Hid (HOut w wr v (sumS S j) (joinS S j) [])) (fun _ i _ => k - (intOf i).toNat)
      case atStart => exact ⟨0, by omega, rfl, HO⟩
      case round =>
        obtain ⟨j, hj, rfl, HO2⟩ := hrel
        by_cases hlt : j < k
        · have hji : (j : Int) < (k : Int) := by omega
          have c1 : wr.cell? ⟨g, j, none⟩ = some (.slice (S j).A (S j).n (S j).c) := (HO2.out.2.1.cell (p := ⟨g, j, none⟩) hg).trans (HC.out j hlt)
          have HRd := Lib.hid ((HR.out j hlt).1.below HO2.out.2.1 rfl)
          have HNo := Lib.hid (HR.out j hlt).2
          have hsl : Hid (sumS S j + (S j).n ≤ 140737488355328) := Lib.hid (by have := sumS_le S (j + 1) k hlt; have := HS.out; have e : sumS S (j + 1) = sumS S j + (S j).n := rfl; omega)
          go_wp2_with (at_builtin; refine wpList_hout rfl (.tmp 31) (.tmp 32) rfl rfl HO2.out (S j).A (S j).n (S j).c (S j).z rfl HRd.out HNo.out hsl.out ?_; intro v2 w2 ho2; refine Hid.out ?_)
          refine Lib.hid ?_
          have HO3 := Lib.hid ho2
          clear ho2 c1
          go_wp2_with fail
          go_roundw
          case rel => exact ⟨j + 1, by omega, by go_num, HO3⟩
          case measure => simp only [intOf]; omega
        · obtain rfl : j = k := by omega
          go_wp2_with fail
          go_ret
          exact ⟨_, rfl, HO2.out⟩
/-- lists one behind the other -/
def sumM (ms : Nat → Nat) : Nat → Nat
  | 0 => 0
  | k + 1 => sumM ms k + ms k
def joinT (Ls : Nat → Nat → It) (ms : Nat → Nat) : Nat → Nat → It
  | 0 => Ls 0
  | k + 1 => catT (joinT Ls ms k) (sumM ms k) (Ls k)
theorem sumM_le (S : Nat → Nat) (k : Nat) : ∀ m, k ≤ m → sumM S k ≤ sumM S m := by
  intro m hm
  induction m with
  | zero =>
      obtain rfl : k = 0 := (by omega)
      exact Nat.le_refl _
  | succ m ih =>
    by_cases e : k = m + 1
    · subst e; exact Nat.le_refl _
    · exact Nat.le_trans (ih (by omega)) (Nat.le_add_right _ _)
theorem cells_join (Ls : Nat → Nat → It) (ms : Nat → Nat) (k : Nat) : cellsT (joinT Ls ms k) (sumM ms k) ++ cellsT (Ls k) (ms k) = cellsT (joinT Ls ms (k + 1)) (sumM ms (k + 1)) := by
  rw [cellsT_cat]; rfl
set_option maxHeartbeats 8000000 in
set_option maxRecDepth 100000 in
theorem concatT_any (g m cap : Nat) (As : Nat → Option Addr) (ms cs : Nat → Nat) (Ls : Nat → Nat → It) (w : World) (hc : ∀ j, j < m → w.cell? ⟨g, j, none⟩ = some (.slice (As j) (ms j) (cs j))) (hg : g < w.heap.size)
    (hr : ∀ j, j < m → RdT w (As j) (ms j) (Ls j) ∧ ((As j) = none → (ms j) = 0 ∧ (cs j) = 0)) (hpos : 0 < sumM ms m) (hs : sumM ms m * 32 ≤ 140737488355328) (hm : m ≤ 1000) :
    Calls Tryd.prog 63 #[.slice (some ⟨g, 0, none⟩) m cap] w fun e w' => ∃ v, e = .returned v ∧ w'.ownsRow w.heap.size 49 2 v (sumM ms m) (cellsT (joinT Ls ms m) (sumM ms m)) ∧ Below w.heap.size w w' := by
  obtain ⟨i0, hi, hz0, hz1, hz2⟩ := info_parts info_tlv
  have HC := Lib.hid hc
  have HR := Lib.hid hr
  have HS := Lib.hid hs
  have HPS := Lib.hid hpos
  clear hc hr hs hpos
  go_enter Tryd.func63, Tryd.ntmps63
  go_wp2_with fail
  go_loopw [3, 11] (fun t i wr => ∃ k : Nat, k ≤ m ∧ i = .int .i64 k ∧ t = .int .i64 ((sumM ms k : Nat) : Int) ∧ w = wr) (fun _ i _ => m - (intOf i).toNat)
  case atStart => exact ⟨0, by omega, rfl, rfl, rfl⟩
  case round =>
    obtain ⟨k, hk, rfl, rfl, rfl⟩ := hrel
    by_cases hlt : k < m
    · have hki : (k : Int) < (m : Int) := by omega
      have c1 := HC.out k hlt
      have hs1 := sumM_le ms (k + 1) m hlt
      have hs2 := HS.out
      have hs3 : sumM ms (k + 1) = sumM ms k + ms k := rfl
      obtain ⟨a, ha⟩ : ∃ a, sumM ms k = a := ⟨_, rfl⟩
      obtain ⟨b, hb⟩ : ∃ b, ms k = b := ⟨_, rfl⟩
      rw [ha, hb] at hs3
      rw [hs3] at hs1
      rw [hb] at c1
      rw [ha]
      have hab : (a : Int) + (b : Int) ≤ 140737488351232 := by omega
      have hn : ¬ (a : Int) + (b : Int) < 0 := by omega
      have HH := Lib.hid hs3
      clear ha hb hs1 hs2 hs3
      go_wp2_with fail
      go_roundw
      case rel => exact ⟨k + 1, by omega, by go_num, by rw [HH.out]; go_num, by first | rfl | trivial⟩
      case measure => simp only [intOf]; omega
    · obtain rfl : k = m := by omega
      obtain ⟨a, ha⟩ : ∃ a, sumM ms k = a := ⟨_, rfl⟩
      rw [ha]
      have HP := Lib.hid ha
      have HG := Lib.hid (growT_any a w (by rw [← ha]; exact HPS.out) (by have := HS.out; omega))
      clear ha
      go_wp2_with fail
      refine HG.out.mono ?_
      rintro e w1 ⟨v1, rfl, ho, b1⟩
      have HO : Hid (w1.ownsRow w.heap.size 49 2 v1 0 []) := Lib.hid ho
      have HB := Lib.hid b1
      clear ho b1 HG
      go_wp2_with fail
      go_loopw [6, 27] (fun v i wr => ∃ j : Nat, j ≤ k ∧ i = .int .i64 j ∧ Hid (wr.ownsRow w.heap.size 49 2 v (sumM ms j) (cellsT (joinT Ls ms j) (sumM ms j))) ∧ Hid (Below w.heap.size w wr)) (fun _ i _ => k - (intOf i).toNat)
      case atStart => exact ⟨0, by omega, rfl, HO, HB⟩
      case round =>
        obtain ⟨j, hj, rfl, HO2, HB2⟩ := hrel
        by_cases hlt : j < k
        · have hji : (j : Int) < (k : Int) := by omega
          have c1 : wr.cell? ⟨g, j, none⟩ = some (.slice (As j) (ms j) (cs j)) := (HB2.out.cell (p := ⟨g, j, none⟩) hg).trans (HC.out j hlt)
          have HRd := Lib.hid ((HR.out j hlt).1.below HB2.out)
          have HNo := Lib.hid (HR.out j hlt).2
          have hsl : Hid ((sumM ms j + ms j) * 32 ≤ 140737488355328) := Lib.hid (by have := sumM_le ms (j + 1) k hlt; have := HS.out; have e : sumM ms (j + 1) = sumM ms j + ms j := rfl; omega)
          go_wp2_with (at_builtin; refine wpList_append_any rfl (.tmp 31) (.tmp 32) 40 rfl w.heap.size 49 i0 _ 2 32 Tryd.underlying40 hi hz0 hz1 hz2 rfl (by decide) _ _ _ rfl HO2.out (As j) (ms j) (cs j) (cellsT (Ls j) (ms j)) rfl (cellsT_len _ _) HNo.out (rdT_news HRd.out) (cellsT_one _ _) (by have := hsl.out; unfold maxLen; omega) hsl.out HB2.out.size ?_; intro v2 w2 ho2 hg2; refine Hid.out ?_)
          refine Lib.hid ?_
          have HB3 := Lib.hid (HB2.out.grown hg2 HB2.out.size (fun x e => (HO2.out.lt x e).1))
          rw [cells_join] at ho2
          have HO3 := Lib.hid ho2
          clear ho2 hg2 c1
          go_wp2_with fail
          go_roundw
          case rel => exact ⟨j + 1, by omega, by go_num, HO3, HB3⟩
          case measure => simp only [intOf]; omega
        · obtain rfl : j = k := by omega
          go_wp2_with fail
          go_ret
          exact ⟨_, rfl, HO2.out, HB2.out⟩
end Go.Proofs.YtccoicjmmeoggaaDoor
