/- The library's sort at names, and the order it is handed. Each theorem states its conditions. -/
import Derived.Test.YtahflakanbhapaaISortK
import Derived.Test.YtahflakanbhapaaShelf
namespace Go.Proofs.Ytahflakanbhapaa
open Go.RowKit Go.Sort
set_option linter.unusedVariables false

set_option maxHeartbeats 8000000 in
set_option maxRecDepth 100000 in
theorem closure_any (x y : By) (W : World) : Calls Try.prog 29 #[.agg (syC x.1), .agg (syC y.1)] W fun e w' => e = .returned (.int .i64 (cfB x y)) ∧ ∃ q os', w' = grow (W.drewN q) os' := by
  go_enter Try.func29, Try.ntmps29
  go_wp2_with fail
  obtain ⟨W2, hW2⟩ : ∃ W2, (W.alloc (.cells (syC x.1) 37)).alloc (.cells (syC y.1) 37) = W2 := ⟨_, rfl⟩
  have k1 : Blk 37 W2 W.heap.size (syC x.1) := by rw [← hW2]; exact (Below.heap_alloc _ _ _ (by simp)).trans (heap_alloc_new W _)
  have k2 : Blk 37 W2 (W.heap.size + 1) (syC y.1) := by
    rw [← hW2]
    have h := heap_alloc_new (W.alloc (.cells (syC x.1) 37)) (.cells (syC y.1) 37)
    rw [World.size_alloc] at h
    exact h
  have HW : Hid (∃ os', W2.drew = grow (W.drewN 1) os') := Lib.hid ⟨_, by rw [← hW2, alloc_eq_grow, alloc_eq_grow, grow_grow]; rfl⟩
  rw [hW2]
  clear hW2
  refine wp_region_held_drew (S := fun w' => w' = W2.drew) (by kernel_rfl) rfl (fun hS => ?_)
  refine takeY (i := 0) (some 5) (v := .slice (some ⟨W.heap.size, 0, none⟩) 6 6) rfl rfl (by kernel_rfl) (by kernel_rfl) (by kernel_rfl) (fun _ _ _ h => h) (by rfl) (fun w' hS => by clear hS; go_simp) rfl ?_
  simp only [Act.put, List.setIfInBounds_toArray, List.set_cons_zero, List.set_cons_succ]
  refine takeY (i := 1) (some 6) (v := .slice (some ⟨W.heap.size + 1, 0, none⟩) 6 6) rfl rfl (by kernel_rfl) (by kernel_rfl) (by kernel_rfl) (fun _ _ _ h => h) (by rfl) (fun w' hS => by clear hS; go_simp) rfl ?_
  simp only [Act.put, List.setIfInBounds_toArray, List.set_cons_zero, List.set_cons_succ]
  refine takeC (i := 2) (some 7) 27 #[.slice (some ⟨W.heap.size, 0, none⟩) 6 6, .slice (some ⟨W.heap.size + 1, 0, none⟩) 6 6] (.int .i64 (cfB x y)) (R := fun w' => w' = W2.drew) rfl rfl (by kernel_rfl) (by rfl) (by go_simp) ((cmp6_any _ _ _ _ _ _ x.1 y.1 W2.drew (Blk.all k1) (Blk.all k2) x.2 y.2).mono (fun e w' h => ⟨h.1, h.2⟩)) (fun w' h => h) (fun w3 h3 _ => ?_)
  subst h3
  simp only [Act.put, List.setIfInBounds_toArray, List.set_cons_zero, List.set_cons_succ]
  refine takeY (i := 3) (some 4) (v := .int .i64 (cfB x y)) rfl rfl (by kernel_rfl) (by kernel_rfl) (by kernel_rfl) (fun _ _ _ h => h) (by rfl) (fun w' hS => by clear hS; go_simp) rfl ?_
  simp only [Act.put, List.setIfInBounds_toArray, List.set_cons_zero, List.set_cons_succ]
  refine wpAnyH_done (by kernel_rfl) ?_ _
  go_wp2_with fail
  go_ret
  obtain ⟨os', h⟩ := HW.out
  exact ⟨rfl, 1, os', h⟩
theorem agg_sys (w : World) : (isAgg 37).run Try.prog w = .ok true w := by kernel_rfl
theorem sz_sys (w : World) : (Go.sizeOf 37).run Try.prog w = .ok 6 w := by kernel_rfl
theorem swo_by : SWO (ltOf cfB) := by
  have e : ∀ x y, ltOf cfB x y = decide (nmB x < nmB y) := fun x y => cf_lt x y
  refine ⟨fun x => ?_, fun x y z h1 h2 => ?_, fun x y z h1 h2 => ?_⟩
  · rw [e]; simp
  · rw [e] at h1 h2 ⊢
    have := of_decide_eq_true h1
    have := of_decide_eq_true h2
    exact decide_eq_true (by omega)
  · rw [e] at h1 h2 ⊢
    have := of_decide_eq_false h1
    have := of_decide_eq_false h2
    exact decide_eq_false (by omega)
theorem asc_of {T : List By} {n : Nat} (hn : T.length = n) (h : SortedIn (ltOf cfB) 0 n T.toArray) : Asc T := by
  intro i j hij hj
  have h9 := h i j (Nat.zero_le _) hij (by omega)
  have e : ∀ x y, ltOf cfB x y = decide (nmB x < nmB y) := fun x y => cf_lt x y
  rw [e] at h9
  have h8 := of_decide_eq_false h9
  have g : ∀ k, k < T.length → T.toArray[k]! = T[k]?.getD default := fun k hk => by
    rw [getElem!_pos _ k (by simpa using hk), List.getElem?_eq_getElem hk]; simp
  rw [g i (by omega), g j hj] at h8
  omega
theorem sort_row (g cap : Nat) (S : List By) (w : World) (cur : Array Value) (hb : w.heap[g]? = some (.cells cur 37 (0, 0))) (ht : cur.toList.take (S.length * 6) = cellsR (byA S) S.length) (hn : S.length < 4611686018427387904) (u : Unit) :
    Calls Try.prog 28 #[.slice (some ⟨g, 0, none⟩) S.length cap, .func (.func 29) #[] #[]] w fun e w' => e = .returned (.tuple #[]) ∧ ∃ T n os, T.Perm S ∧ Asc T ∧ w' = grow (putRowK enc6 6 (Sort.ahead w n) g 0 T.toArray) os := by
  have eg : ∀ args w, (callFunc 29 args).run Try.prog w = .ok (.enter 29 args) w := enters_of Try.func29 (by kernel_rfl) rfl
  have hcon := AnyQ.slices_SortFunc Try.sortS 6 agg_sys sz_sys enc6 (fun _ => rfl) (fun x v hv => syC_ones _ v hv) cfB swo_by 29 #[] g 0 cap S.toArray w eg (fun m os dk _ x y => closure_any x y _) (holds_own hb ht) (Array.getElem?_eq_some_iff.1 hb).1 (by simpa using hn)
  have hc2 : S.toArray.size = S.length := by simp
  rw [hc2] at hcon
  change Calls Try.prog 28 #[.slice (some ⟨g, 0, none⟩) S.length cap, .func (.func 29) #[] #[]] w _ at hcon
  refine hcon.mono ?_
  rintro e w' ⟨he, d', n, os, h1, h2, h3⟩
  obtain ⟨T⟩ := d'
  have hl : T.length = S.length := by have := h1.1; simpa using this
  exact ⟨he, T, n, os, perm_all (by rw [hc2]; exact h1), asc_of hl h2, h3⟩
theorem ins_none (fv : Value) (w : World) : Calls Try.prog 35 #[.slice none 0 0, .int .i64 0, .int .i64 0, fv] w fun e w' => e = .returned (.tuple #[]) ∧ w' = w := by
  go_enter Try.func35, Try.ntmps35
  go_wp2
  refine wp_loop_rounds 1 ?_
  rw [rounds_succ]
  go_wp2
  go_end0
  exact ⟨rfl, rfl⟩
set_option maxHeartbeats 8000000 in
theorem pdq_none (lim : Int) (fv : Value) (w : World) : Calls Try.prog 33 #[.slice none 0 0, .int .i64 0, .int .i64 0, .int .i64 lim, fv] w fun e w' => e = .returned (.tuple #[]) ∧ w' = w := by
  have hi := fun W => ins_none fv W
  go_enter Try.func33, Try.ntmps33
  go_wp2
  refine wp_loop_rounds 1 ?_
  rw [rounds_succ]
  go_wp2_with (go_at_call 35; refine (hi _).mono ?_; rintro e w' ⟨rfl, rfl⟩)
  (try simp only [Exit.inBlock, Exit.then]); refine bodyPost_ret (results_none rfl _ _ _) rfl ?_
  exact ⟨rfl, rfl⟩
set_option maxHeartbeats 8000000 in
theorem sort_none (w : World) : Calls Try.prog 28 #[.slice none 0 0, .func (.func 29) #[] #[]] w fun e w' => e = .returned (.tuple #[]) ∧ w' = w := by
  have hp := fun lim fv W => pdq_none lim fv W
  go_enter Try.func28, Try.ntmps28
  go_wp2_with (first | (go_at_call 33; refine (hp _ _ _).mono ?_; rintro e w' ⟨rfl, rfl⟩) | go_in)
  go_end0
  exact ⟨rfl, rfl⟩
end Go.Proofs.Ytahflakanbhapaa
