/- The library's sort at IDs, and the order it is handed. Each theorem states its conditions. -/
import Derived.Test.YteamnibgeobcbaaJCmp
namespace Go.Proofs.Yteamnibgeobcbaa
open Go.RowKit Go.Sort
set_option linter.unusedVariables false

abbrev IdT := { n : Nat // IdOk n }
instance : Inhabited IdT := ⟨⟨0, by unfold IdOk; decide⟩⟩
theorem bs_int (W : World) (o : Oper) (e : Operand → Value) {x y z : Operand} (ho : o.op = .buildSlice 91 3 #[(0, x), (1, y), (2, z)]) (a b c : Int) (hx : e x = .int .i64 a) (hy : e y = .int .i64 b) (hz : e z = .int .i64 c) :
    (execOp e o).run Try.prog W = .ok (.value (.slice (some ⟨W.heap.size, 0, none⟩) 3 3)) (W.alloc (.cells #[.int .i64 a, .int .i64 b, .int .i64 c] 3)) := by
  unfold execOp
  simp only [ho]
  simp only [List.map_toArray, List.map_cons, List.map_nil, hx, hy, hz]
  kernel_rfl
set_option maxHeartbeats 16000000 in
set_option maxRecDepth 100000 in
theorem order_any (x y : Nat) (W : World) (hx : IdOk x) (hy : IdOk y) : Calls Try.prog 32 #[.agg (idC x), .agg (idC y)] W fun e w' => e = .returned (.int .i64 (cmp3 (x : Int) (y : Int))) ∧ ∃ q os', w' = grow (W.drewN q) os' := by
  have HE := Lib.hid (or_cmp hx hy)
  clear hx hy
  go_enter Try.func32, Try.ntmps32
  go_wp2_with fail
  obtain ⟨W2, hW2⟩ : ∃ W2, (W.alloc (.cells (idC x) 28)).alloc (.cells (idC y) 28) = W2 := ⟨_, rfl⟩
  have k1 : Blk 28 W2 W.heap.size (idC x) := by rw [← hW2]; exact (Below.heap_alloc _ _ _ (by simp)).trans (heap_alloc_new W _)
  have k2 : Blk 28 W2 (W.heap.size + 1) (idC y) := by
    rw [← hW2]
    have h := heap_alloc_new (W.alloc (.cells (idC x) 28)) (.cells (idC y) 28)
    rw [World.size_alloc] at h
    exact h
  have HW : Hid (∀ o, ∃ os', W2.drew.alloc o = grow (W.drewN 1) os') := Lib.hid fun o => ⟨_, by
    rw [← hW2, alloc_eq_grow, alloc_eq_grow, alloc_eq_grow, grow_grow]
    change grow (grow W.drew (#[Obj.cells (idC x) _] ++ #[Obj.cells (idC y) _])) #[o] = _
    rw [grow_grow]
    rfl⟩
  rw [hW2]
  clear hW2
  obtain ⟨N1, hN1⟩ : ∃ N, W.heap.size = N := ⟨_, rfl⟩
  rw [hN1] at k1 k2 ⊢
  clear hN1
  obtain ⟨N2, hN2⟩ : ∃ N, N1 + 1 = N := ⟨_, rfl⟩
  rw [hN2] at k2 ⊢
  clear hN2
  refine wp_region_held_drew (S := fun w' => Blk 28 w' N1 (idC x) ∧ Blk 28 w' N2 (idC y)) (by kernel_rfl) ⟨k1, k2⟩ (fun hS => ?_)
  clear k1 k2
  generalize hW3 : W2.drew = W3 at hS ⊢
  rw [hW3] at HW
  clear hW3
  refine takeY (i := 0) (some 5) (v := .pointer (some ⟨N1, 0, none⟩)) rfl rfl (by kernel_rfl) (by kernel_rfl) (by kernel_rfl) (fun _ _ _ h => h) (by rfl) (fun w' hS => by clear hS; go_simp) hS ?_
  simp only [Act.put, List.setIfInBounds_toArray, List.set_cons_zero, List.set_cons_succ]
  refine takeY (i := 1) (some 6) (v := .pointer (some ⟨N1, 0, none⟩)) rfl rfl (by kernel_rfl) (by kernel_rfl) (by kernel_rfl) (fun _ _ _ h => h) (by rfl) (fun w' hS => by clear hS; go_simp) hS ?_
  simp only [Act.put, List.setIfInBounds_toArray, List.set_cons_zero, List.set_cons_succ]
  refine takeY (i := 2) (some 7) (v := .slice (some ⟨N1, 0, none⟩) 6 6) rfl rfl (by kernel_rfl) (by kernel_rfl) (by kernel_rfl) (fun _ _ _ h => h) (by rfl) (fun w' hS => by clear hS; go_simp) hS ?_
  simp only [Act.put, List.setIfInBounds_toArray, List.set_cons_zero, List.set_cons_succ]
  refine takeY (i := 3) (some 8) (v := .pointer (some ⟨N2, 0, none⟩)) rfl rfl (by kernel_rfl) (by kernel_rfl) (by kernel_rfl) (fun _ _ _ h => h) (by rfl) (fun w' hS => by clear hS; go_simp) hS ?_
  simp only [Act.put, List.setIfInBounds_toArray, List.set_cons_zero, List.set_cons_succ]
  refine takeY (i := 4) (some 9) (v := .pointer (some ⟨N2, 0, none⟩)) rfl rfl (by kernel_rfl) (by kernel_rfl) (by kernel_rfl) (fun _ _ _ h => h) (by rfl) (fun w' hS => by clear hS; go_simp) hS ?_
  simp only [Act.put, List.setIfInBounds_toArray, List.set_cons_zero, List.set_cons_succ]
  refine takeY (i := 5) (some 10) (v := .slice (some ⟨N2, 0, none⟩) 6 6) rfl rfl (by kernel_rfl) (by kernel_rfl) (by kernel_rfl) (fun _ _ _ h => h) (by rfl) (fun w' hS => by clear hS; go_simp) hS ?_
  simp only [Act.put, List.setIfInBounds_toArray, List.set_cons_zero, List.set_cons_succ]
  refine takeY (i := 7) (some 12) (v := .pointer (some ⟨N1, 0, none⟩)) rfl rfl (by kernel_rfl) (by kernel_rfl) (by kernel_rfl) (fun _ _ _ h => h) (by rfl) (fun w' hS => by clear hS; go_simp) hS ?_
  simp only [Act.put, List.setIfInBounds_toArray, List.set_cons_zero, List.set_cons_succ]
  refine takeY (i := 8) (some 13) (v := .pointer (some ⟨N1, 6, none⟩)) rfl rfl (by kernel_rfl) (by kernel_rfl) (by kernel_rfl) (fun _ _ _ h => h) (by rfl) (fun w' hS => by clear hS; go_simp) hS ?_
  simp only [Act.put, List.setIfInBounds_toArray, List.set_cons_zero, List.set_cons_succ]
  refine takeY (i := 9) (some 14) (v := .int .u8 (dg x 6)) rfl rfl (by kernel_rfl) (by kernel_rfl) (by kernel_rfl) (fun _ _ _ h => h) (by rfl) (fun w' hS => by (have c9 : w'.cell? ⟨N1, 6, none⟩ = some (.int .u8 (dg x 6)) := (hS.1.cell 6).trans rfl; clear hS; go_simp)) hS ?_
  simp only [Act.put, List.setIfInBounds_toArray, List.set_cons_zero, List.set_cons_succ]
  refine takeY (i := 10) (some 15) (v := .pointer (some ⟨N2, 0, none⟩)) rfl rfl (by kernel_rfl) (by kernel_rfl) (by kernel_rfl) (fun _ _ _ h => h) (by rfl) (fun w' hS => by clear hS; go_simp) hS ?_
  simp only [Act.put, List.setIfInBounds_toArray, List.set_cons_zero, List.set_cons_succ]
  refine takeY (i := 11) (some 16) (v := .pointer (some ⟨N2, 6, none⟩)) rfl rfl (by kernel_rfl) (by kernel_rfl) (by kernel_rfl) (fun _ _ _ h => h) (by rfl) (fun w' hS => by clear hS; go_simp) hS ?_
  simp only [Act.put, List.setIfInBounds_toArray, List.set_cons_zero, List.set_cons_succ]
  refine takeY (i := 12) (some 17) (v := .int .u8 (dg y 6)) rfl rfl (by kernel_rfl) (by kernel_rfl) (by kernel_rfl) (fun _ _ _ h => h) (by rfl) (fun w' hS => by (have c9 : w'.cell? ⟨N2, 6, none⟩ = some (.int .u8 (dg y 6)) := (hS.2.cell 6).trans rfl; clear hS; go_simp)) hS ?_
  simp only [Act.put, List.setIfInBounds_toArray, List.set_cons_zero, List.set_cons_succ]
  refine takeY (i := 14) (some 19) (v := .pointer (some ⟨N1, 7, none⟩)) rfl rfl (by kernel_rfl) (by kernel_rfl) (by kernel_rfl) (fun _ _ _ h => h) (by rfl) (fun w' hS => by clear hS; go_simp) hS ?_
  simp only [Act.put, List.setIfInBounds_toArray, List.set_cons_zero, List.set_cons_succ]
  refine takeY (i := 15) (some 20) (v := .int .u8 (dg x 7)) rfl rfl (by kernel_rfl) (by kernel_rfl) (by kernel_rfl) (fun _ _ _ h => h) (by rfl) (fun w' hS => by (have c9 : w'.cell? ⟨N1, 7, none⟩ = some (.int .u8 (dg x 7)) := (hS.1.cell 7).trans rfl; clear hS; go_simp)) hS ?_
  simp only [Act.put, List.setIfInBounds_toArray, List.set_cons_zero, List.set_cons_succ]
  refine takeY (i := 16) (some 21) (v := .pointer (some ⟨N2, 7, none⟩)) rfl rfl (by kernel_rfl) (by kernel_rfl) (by kernel_rfl) (fun _ _ _ h => h) (by rfl) (fun w' hS => by clear hS; go_simp) hS ?_
  simp only [Act.put, List.setIfInBounds_toArray, List.set_cons_zero, List.set_cons_succ]
  refine takeY (i := 17) (some 22) (v := .int .u8 (dg y 7)) rfl rfl (by kernel_rfl) (by kernel_rfl) (by kernel_rfl) (fun _ _ _ h => h) (by rfl) (fun w' hS => by (have c9 : w'.cell? ⟨N2, 7, none⟩ = some (.int .u8 (dg y 7)) := (hS.2.cell 7).trans rfl; clear hS; go_simp)) hS ?_
  simp only [Act.put, List.setIfInBounds_toArray, List.set_cons_zero, List.set_cons_succ]
  refine takeC (i := 6) (some 11) 37 #[.slice (some ⟨N1, 0, none⟩) 6 6, .slice (some ⟨N2, 0, none⟩) 6 6] (.int .i64 (cmp3 (numZ (dg x) 0 6) (numZ (dg y) 0 6))) (R := fun w' => W3 = w') rfl rfl (by kernel_rfl) (by rfl) (by go_simp) ((cmp6_any _ _ _ _ _ _ (dg x) (dg y) W3 hS.1.sys6 hS.2.sys6 (dg_bd x) (dg_bd y)).mono (fun e w' h => ⟨h.1, h.2.symm⟩)) (fun w' h => h ▸ hS) (fun w3 h3 _ => ?_)
  subst h3
  simp only [Act.put, List.setIfInBounds_toArray, List.set_cons_zero, List.set_cons_succ]
  refine takeC (i := 13) (some 18) 38 #[.int .u8 (dg x 6), .int .u8 (dg y 6)] (.int .i64 (cmp3 (dg x 6) (dg y 6))) (R := fun w' => W3 = w') rfl rfl (by kernel_rfl) (by rfl) (by go_simp) ((cmpb_any _ _ W3).mono (fun e w' h => ⟨h.1, h.2.symm⟩)) (fun w' h => h ▸ hS) (fun w3 h3 _ => ?_)
  subst h3
  simp only [Act.put, List.setIfInBounds_toArray, List.set_cons_zero, List.set_cons_succ]
  refine takeC (i := 18) (some 23) 38 #[.int .u8 (dg x 7), .int .u8 (dg y 7)] (.int .i64 (cmp3 (dg x 7) (dg y 7))) (R := fun w' => W3 = w') rfl rfl (by kernel_rfl) (by rfl) (by go_simp) ((cmpb_any _ _ W3).mono (fun e w' h => ⟨h.1, h.2.symm⟩)) (fun w' h => h ▸ hS) (fun w3 h3 _ => ?_)
  subst h3
  simp only [Act.put, List.setIfInBounds_toArray, List.set_cons_zero, List.set_cons_succ]
  obtain ⟨N3, hN3⟩ : ∃ N, W3.heap.size = N := ⟨_, rfl⟩
  obtain ⟨W4, hW4⟩ : ∃ W4, W3.alloc (.cells #[.int .i64 (cmp3 (numZ (dg x) 0 6) (numZ (dg y) 0 6)), .int .i64 (cmp3 (dg x 6) (dg y 6)), .int .i64 (cmp3 (dg x 7) (dg y 7))] 3) = W4 := ⟨_, rfl⟩
  have hb4 : Below W3.heap.size W3 W4 := by rw [← hW4]; exact (Below.refl _ _).alloc (Nat.le_refl _) _
  have k4 : Blk 3 W4 N3 #[.int .i64 (cmp3 (numZ (dg x) 0 6) (numZ (dg y) 0 6)), .int .i64 (cmp3 (dg x 6) (dg y 6)), .int .i64 (cmp3 (dg x 7) (dg y 7))] := by rw [← hW4, ← hN3]; exact heap_alloc_new W3 _
  have hS4 : Blk 28 W4 N1 (idC x) ∧ Blk 28 W4 N2 (idC y) := ⟨hS.1.below hb4 hS.1.lt, hS.2.below hb4 hS.2.lt⟩
  refine takeV (i := 19) (some 24) (v := .slice (some ⟨N3, 0, none⟩) 3 3) (w' := W4) rfl rfl (by kernel_rfl) (by rfl) (by rw [← hN3, ← hW4]; exact bs_int W3 _ _ rfl _ _ _ rfl rfl rfl) hS4 ?_
  simp only [Act.put, List.setIfInBounds_toArray, List.set_cons_zero, List.set_cons_succ]
  refine takeC (i := 20) (some 25) 36 #[.slice (some ⟨N3, 0, none⟩) 3 3] (.int .i64 (cmp3 (x : Int) (y : Int))) (R := fun w' => W4 = w') rfl rfl (by kernel_rfl) (by rfl) (by go_simp) ((or_any N3 _ _ _ W4 k4).mono (fun e w' h => ⟨by rw [h.1, HE.out], h.2.symm⟩)) (fun w' h => h ▸ hS4) (fun w3 h3 _ => ?_)
  subst h3
  simp only [Act.put, List.setIfInBounds_toArray, List.set_cons_zero, List.set_cons_succ]
  refine takeY (i := 21) (some 4) (v := .int .i64 (cmp3 (x : Int) (y : Int))) rfl rfl (by kernel_rfl) (by kernel_rfl) (by kernel_rfl) (fun _ _ _ h => h) (by rfl) (fun w' hS => by clear hS; go_simp) hS4 ?_
  simp only [Act.put, List.setIfInBounds_toArray, List.set_cons_zero, List.set_cons_succ]
  refine wpAnyH_done (by kernel_rfl) ?_ _
  go_wp2_with fail
  go_ret
  obtain ⟨os', h⟩ := HW.out (.cells #[.int .i64 (cmp3 (numZ (dg x) 0 6) (numZ (dg y) 0 6)), .int .i64 (cmp3 (dg x 6) (dg y 6)), .int .i64 (cmp3 (dg x 7) (dg y 7))] 3)
  exact ⟨rfl, 1, os', by rw [← hW4]; exact h⟩
end Go.Proofs.Yteamnibgeobcbaa
