/- The document's comparison of two lists of waymark/api.Entry: the same are the same; and an append of such a list. Each theorem states its conditions. -/
import Derived.Test.YtigkmcbkckfhbaaDSelf
namespace Go.Proofs.Ytigkmcbkckfhbaa
open Go.RowKit
set_option linter.unusedVariables false

theorem guard_N : Try.prog.eqGuardType Try.prog.depth 96 = false := by kernel_rfl
theorem hi_N (cs : Array Value) (h : cs.size = 11) : (Try.prog.info? 96).map (·.size) = some cs.toList.length := by
  rw [Array.length_toList, h]
  kernel_rfl
set_option maxHeartbeats 1000000 in
set_option maxRecDepth 100000 in
theorem sameN_yes (A B : Option Addr) (m c d : Nat) (C : Nat → Array Value) (w : World) (ha : RdR w A m 11 C) (hb : RdR w B m 11 C) (hs : ∀ j, j < m → SelfEq 10000 96 (.agg (C j))) (hz : ∀ j, (C j).size = 11) (hm : m ≤ 140737488351232) :
    Calls Try.prog 27 #[.slice A m c, .slice B m d] w fun e w' => e = .returned (.bool true) ∧ ∃ k, w' = w.drewN k := by
  rcases Nat.eq_zero_or_pos m with rfl | hn
  · clear ha hb hs
    go_enter Try.func27, Try.ntmps27
    go_wp2
    refine wp_loop_rounds 1 ?_
    rw [rounds_succ]
    go_wp2
    go_ret
    exact ⟨rfl, 0, rfl⟩
  · obtain ⟨b, off, rfl, hr⟩ := ha.row hn
    obtain ⟨b', off', rfl, hr'⟩ := hb.row hn
    have HR := Lib.hid hr
    have HR' := Lib.hid hr'
    have HS := Lib.hid hs
    have HZ := Lib.hid hz
    clear ha hb hr hr' hs hz
    go_enter Try.func27, Try.ntmps27
    go_wp2
    go_loopw [13] (fun t wr => ∃ k r : Nat, k ≤ m ∧ t = .int .i64 k ∧ Hid (wr = w.drewN r)) (fun t _ => m - (intOf t).toNat)
    case atStart => exact ⟨0, 0, by omega, rfl, Lib.hid rfl⟩
    case round =>
      obtain ⟨k, r, hk, rfl, hw⟩ := hrel
      by_cases hlt : k < m
      · have h1 : Hid (wr.drew.rangeAt b (off + k * 11) (C k).toList) := Lib.hid (by rw [hw.out]; exact HR.out.2 k hlt)
        have h2 : Hid (wr.drew.rangeAt b' (off' + k * 11) (C k).toList) := Lib.hid (by rw [hw.out]; exact HR'.out.2 k hlt)
        have hki : (k : Int) < (m : Int) := by omega
        go_wp2_with fail
        refine wp_region_held_drew (S := fun w' => w' = wr.drew) (by kernel_rfl) rfl (fun _ => ?_)
        refine takeY (i := 0) (some 16) (v := .slice (some ⟨b, off, none⟩) m c) rfl rfl (by kernel_rfl) (by kernel_rfl) (by kernel_rfl) (fun _ _ _ h => h) (by rfl) (fun w' hS => by go_simp) rfl ?_
        simp only [Act.put, List.setIfInBounds_toArray, List.set_cons_zero, List.set_cons_succ]
        refine takeY (i := 1) (some 17) (v := .int .i64 k) rfl rfl (by kernel_rfl) (by kernel_rfl) (by kernel_rfl) (fun _ _ _ h => h) (by rfl) (fun w' hS => by go_simp) rfl ?_
        simp only [Act.put, List.setIfInBounds_toArray, List.set_cons_zero, List.set_cons_succ]
        refine takeY (i := 2) (some 18) (v := .pointer (some ⟨b, off + k * 11, none⟩)) rfl rfl (by kernel_rfl) (by kernel_rfl) (by kernel_rfl) (fun _ _ _ h => h) (by rfl) (fun w' hS => by clear hS; go_simp) rfl ?_
        simp only [Act.put, List.setIfInBounds_toArray, List.set_cons_zero, List.set_cons_succ]
        refine takeL (i := 3) (some 19) 96 (.tmp 18) b (off + k * 11) (C k) _ rfl rfl (by kernel_rfl) (by kernel_rfl) (by kernel_rfl) (fun _ _ _ h => h) (by rfl) rfl rfl (fun w' hS => by rw [hS]; exact h1.out) Try.underlying96 rfl (hi_N _ (HZ.out k)) rfl ?_
        simp only [Act.put, List.setIfInBounds_toArray, List.set_cons_zero, List.set_cons_succ]
        refine takeY (i := 4) (some 20) (v := .slice (some ⟨b', off', none⟩) m d) rfl rfl (by kernel_rfl) (by kernel_rfl) (by kernel_rfl) (fun _ _ _ h => h) (by rfl) (fun w' hS => by go_simp) rfl ?_
        simp only [Act.put, List.setIfInBounds_toArray, List.set_cons_zero, List.set_cons_succ]
        refine takeY (i := 5) (some 21) (v := .int .i64 k) rfl rfl (by kernel_rfl) (by kernel_rfl) (by kernel_rfl) (fun _ _ _ h => h) (by rfl) (fun w' hS => by go_simp) rfl ?_
        simp only [Act.put, List.setIfInBounds_toArray, List.set_cons_zero, List.set_cons_succ]
        refine takeY (i := 6) (some 22) (v := .pointer (some ⟨b', off' + k * 11, none⟩)) rfl rfl (by kernel_rfl) (by kernel_rfl) (by kernel_rfl) (fun _ _ _ h => h) (by rfl) (fun w' hS => by clear hS; go_simp) rfl ?_
        simp only [Act.put, List.setIfInBounds_toArray, List.set_cons_zero, List.set_cons_succ]
        refine takeL (i := 7) (some 23) 96 (.tmp 22) b' (off' + k * 11) (C k) _ rfl rfl (by kernel_rfl) (by kernel_rfl) (by kernel_rfl) (fun _ _ _ h => h) (by rfl) rfl rfl (fun w' hS => by rw [hS]; exact h2.out) Try.underlying96 rfl (hi_N _ (HZ.out k)) rfl ?_
        simp only [Act.put, List.setIfInBounds_toArray, List.set_cons_zero, List.set_cons_succ]
        refine takeY (i := 8) (some 24) (v := .bool false) rfl rfl (by kernel_rfl) (by kernel_rfl) (by kernel_rfl) (fun _ _ _ h => h) (by rfl) (fun w' _ => neq_self _ _ (.tmp 19) (.tmp 23) _ _ rfl rfl guard_N (C k) (HS.out k hlt) rfl rfl w') rfl ?_
        simp only [Act.put, List.setIfInBounds_toArray, List.set_cons_zero, List.set_cons_succ]
        refine wpAnyH_done (by kernel_rfl) ?_ _
        have hwd : Hid (wr.drew = w.drewN (r + 1)) := Lib.hid (by rw [hw.out]; rfl)
        clear h1 h2
        go_wp2
        go_roundw
        case rel => exact ⟨k + 1, r + 1, by omega, by go_num, hwd⟩
        case measure => simp [intOf]; omega
      · obtain rfl : k = m := by omega
        go_wp2
        go_ret
        exact ⟨rfl, r, hw.out⟩
theorem infoA_N : (Try.prog.info? 96).map (fun i => (i.zero, i.size, i.bytes)) = some (some (.agg #[.int .u8 0, .int .u8 0, .int .u8 0, .int .u8 0, .int .u8 0, .int .u8 0, .int .u8 0, .int .u8 0, .int .u32 0, .int .i64 0, .int .u16 0]), 11, 32) := by kernel_rfl
/-- 'append(l, x...)' of a list that came in to a list of the call's own -/
theorem app_N {ops : Array Oper} {rest : List Oper} {o : Oper} {a : Act} {w : World} {Q : Exit → Act → World → Prop} (hgd : o.guard = none) (s x : Operand)
    (ho : o.op = .call { callee := .builtin .append, args := #[s, x], argTypes := #[55, 55] })
    (w0 : World) (v : Value) (n : Nat) (xs : List Value) (hs : a.eval s = v) (hown : w.ownsRow w0.heap.size 96 11 v n xs) (hb : Below w0.heap.size w0 w)
    (A : Option Addr) (m c : Nat) (C : Nat → Array Value) (hx : a.eval x = .slice A m c) (hR : RdR w A m 11 C) (hA : A = none → m = 0 ∧ c = 0) (hC : Recs 11 C) (hbd : (n + m) * 32 ≤ 140737488355328)
    (h : ∀ v' w', w'.ownsRow w0.heap.size 96 11 v' (n + m) (xs ++ cellsR C m) → Below w0.heap.size w0 w' → w.heap.size ≤ w'.heap.size → (∀ k, k < w.heap.size → v.ownBlock ≠ some k → w'.heap[k]? = w.heap[k]? ∧ v'.ownBlock ≠ some k) → wpList Try.prog ops Q rest (a.put o.dst v') w') :
    wpList Try.prog ops Q (o :: rest) a w := by
  obtain ⟨i0, hi, hz0, hz1, hz2⟩ := info_parts infoA_N
  rcases A with _ | ad
  · obtain ⟨rfl, rfl⟩ := hA rfl
    refine wpList_append_own_none hgd s x _ ho w0.heap.size 96 i0 11 Try.underlying55 hi v n xs hs hown hx ?_
    exact h v w (by simpa [cellsR] using hown) hb (Nat.le_refl _) (fun k _ hne => ⟨rfl, hne⟩)
  · refine wpList_append_own_at w hgd s x _ ho w0.heap.size 96 i0 _ 11 32 Try.underlying55 hi hz0 hz1 hz2 rfl (by decide) v n xs hs hown ad m c (cellsR C m) hx (cellsR_len hC m) (recs_news hC (by decide) hR) (cellsR_one hC m) (by unfold maxLen; omega) hbd hb.size ?_
    intro v' w' h2 h3 h4 h5
    refine h v' w' h2 (hb.grown h3 hb.size (fun k e => (hown.lt k e).1)) h3.size (fun k hk hne => ⟨h3.block k hk (fun e => hne e.symm), fun e => ?_⟩)
    rcases h5 with h5 | h5
    · rw [h5] at e; exact hne e
    · rw [h5] at e; injection e with e; omega
end Go.Proofs.Ytigkmcbkckfhbaa
