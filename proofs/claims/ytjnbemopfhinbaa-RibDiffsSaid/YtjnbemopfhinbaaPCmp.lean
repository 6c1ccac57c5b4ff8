/- prefix.Cmp. Each theorem states its conditions. -/
import Derived.Test.YtjnbemopfhinbaaPKey
import Derived.Lib.BytesEntry
namespace Go.Proofs.Ytjnbemopfhinbaa
open Go.RowKit
set_option linter.unusedVariables false

section
variable {P : Program} {ops : Array Oper} {Q : Exit → Act → World → Prop} {md : Region.Mode} {S : World → Prop}
end

theorem nan_u8 (a : Int) (w : World) : Calls Try.prog 76 #[.int .u8 a] w fun e w' => e = .returned (.bool false) ∧ w = w' := by
  go_enter Try.func76, Try.ntmps76
  go_wp2
  go_ret
  exact ⟨rfl, rfl⟩
theorem cmp_u8 (a b : Int) (w : World) : Calls Try.prog 58 #[.int .u8 a, .int .u8 b] w fun e w' => e = .returned (.int .i64 (cmp1 a b)) ∧ Below w.heap.size w w' := by
  have H1 := Lib.hid (nan_u8 a)
  have H2 := Lib.hid (nan_u8 b)
  go_enter Try.func58, Try.ntmps58
  go_wp2_with fail
  refine (H1.out _).mono ?_
  rintro e w1 ⟨rfl, rfl⟩
  go_wp2_with fail
  refine (H2.out _).mono ?_
  rintro e w2 ⟨rfl, rfl⟩
  rcases Int.lt_trichotomy a b with h | h | h
  · go_wp2
    go_ret
    exact ⟨by rw [cmp1_lt h]; rfl, bself _⟩
  · have h1 : ¬ a < b := by omega
    have h2 : ¬ b < a := by omega
    go_wp2
    go_ret
    exact ⟨by rw [cmp1_eq h]; rfl, bself _⟩
  · have h1 : ¬ a < b := by omega
    go_wp2
    go_ret
    exact ⟨by rw [cmp1_gt h]; rfl, bself _⟩
theorem nan_int (a : Int) (w : World) : Calls Try.prog 78 #[.int .i64 a] w fun e w' => e = .returned (.bool false) ∧ w = w' := by
  go_enter Try.func78, Try.ntmps78
  go_wp2
  go_ret
  exact ⟨rfl, rfl⟩
theorem cmp_int (a b : Int) (w : World) : Calls Try.prog 60 #[.int .i64 a, .int .i64 b] w fun e w' => e = .returned (.int .i64 (cmp1 a b)) ∧ Below w.heap.size w w' := by
  have H1 := Lib.hid (nan_int a)
  have H2 := Lib.hid (nan_int b)
  go_enter Try.func60, Try.ntmps60
  go_wp2_with fail
  refine (H1.out _).mono ?_
  rintro e w1 ⟨rfl, rfl⟩
  go_wp2_with fail
  refine (H2.out _).mono ?_
  rintro e w2 ⟨rfl, rfl⟩
  rcases Int.lt_trichotomy a b with h | h | h
  · go_wp2
    go_ret
    exact ⟨by rw [cmp1_lt h]; rfl, bself _⟩
  · have h1 : ¬ a < b := by omega
    have h2 : ¬ b < a := by omega
    go_wp2
    go_ret
    exact ⟨by rw [cmp1_eq h]; rfl, bself _⟩
  · have h1 : ¬ a < b := by omega
    go_wp2
    go_ret
    exact ⟨by rw [cmp1_gt h]; rfl, bself _⟩

/-- the bytes of an address in a prefix's block -/
theorem addr_cells {w : World} {b : Nat} {fam len : Int} {z : Nat → Int} (h : IsPv w b fam len z) : ∀ j, j < 16 → w.cell? ⟨b, 2 + j, none⟩ = some (.int .u8 (z j)) := fun j hj => h.at j hj
theorem asBytes_of (z : Nat → Int) : Lib.bytesOf ((List.range 16).map z) = asBytes z := rfl
theorem run_bytes16 (P : Program) (w : World) (b cap : Nat) (z : Nat → Int) (hz : Bytes z) (h : ∀ j, j < 16 → w.cell? ⟨b, 2 + j, none⟩ = some (.int .u8 (z j))) :
    (Extern.Bytes.bytesOf (.slice (some ⟨b, 2, none⟩) 16 cap)).run P w = .ok ⟨(asBytes z).toArray⟩ w := by
  have := Lib.run_loadBytesX (P := P) w ((List.range 16).map z) ⟨b, 2, none⟩ .empty (fun j x hx => by
    have hj : j < 16 := by
      rcases Nat.lt_or_ge j 16 with h | h
      · exact h
      · rw [List.getElem?_eq_none (by simpa using h)] at hx; cases hx
    have hadd : (⟨b, 2, none⟩ : Addr).add j = ⟨b, 2 + j, none⟩ := by unfold Addr.add; split <;> simp_all
    rw [hadd, h j hj]
    simp [hj] at hx
    rw [hx])
  rw [asBytes_of] at this
  have e : (ByteArray.empty.data ++ (asBytes z).toArray) = (asBytes z).toArray := by show #[] ++ (asBytes z).toArray = _; simp
  rw [e] at this
  exact this
set_option maxHeartbeats 400000 in
theorem cmp_ag (b b' : Nat) (z z' : Nat → Int) (w : World) (hz : Bytes z) (hz' : Bytes z') (h : ∀ j, j < 16 → w.cell? ⟨b, 2 + j, none⟩ = some (.int .u8 (z j))) (h' : ∀ j, j < 16 → w.cell? ⟨b', 2 + j, none⟩ = some (.int .u8 (z' j))) :
    Calls Try.prog 59 #[.slice (some ⟨b, 2, none⟩) 16 16, .slice (some ⟨b', 2, none⟩) 16 16] w fun e w' => e = .returned (.int .i64 (cmp1 (keyZ z 0 16) (keyZ z' 0 16))) ∧ Below w.heap.size w w' := by
  have hc : (callFunc 77 #[.slice (some ⟨b, 2, none⟩) 16 16, .slice (some ⟨b', 2, none⟩) 16 16]).run Try.prog w = .ok (.value (.int .i64 (cmp1 (keyZ z 0 16) (keyZ z' 0 16)))) w := by
    rw [run_callFunc_extern (e := Extern.BytealgCompare.compare) Try.func77 (by kernel_rfl) (by kernel_rfl) (by kernel_rfl) (by kernel_rfl)]
    have hk : Extern.BytealgCompare.cmp ⟨(asBytes z).toArray⟩ ⟨(asBytes z').toArray⟩ = cmp1 (keyZ z 0 16) (keyZ z' 0 16) := by
      rw [Lib.cmp_eq, ← cmp_bytes hz hz' 16 0]
      simp [asBytes, List.range_eq_range']
    have hr : (Extern.BytealgCompare.compare #[.slice (some ⟨b, 2, none⟩) 16 16, .slice (some ⟨b', 2, none⟩) 16 16]).run Try.prog w = .ok (.int .i64 (cmp1 (keyZ z 0 16) (keyZ z' 0 16))) w := by
      change Sem.run Try.prog (do pure (goInt (Extern.BytealgCompare.cmp (← Extern.Bytes.bytesOf (.slice (some ⟨b, 2, none⟩) 16 16)) (← Extern.Bytes.bytesOf (.slice (some ⟨b', 2, none⟩) 16 16))))) w = _
      simp only [Sem.run_bind, run_bytes16 _ _ _ _ _ hz h, run_bytes16 _ _ _ _ _ hz' h', Result.andThen, Sem.run_pure]
      rw [hk]
      rfl
    rw [hr]
    rfl
  clear h h'
  go_enter Try.func59, Try.ntmps59
  go_wp2
  go_ret
  exact ⟨rfl, bself _⟩

set_option maxHeartbeats 400000 in
theorem or_any (g : Nat) (x y z : Int) (w : World) (h0 : w.cell? ⟨g, 0, none⟩ = some (.int .i64 x)) (h1 : w.cell? ⟨g, 1, none⟩ = some (.int .i64 y)) (h2 : w.cell? ⟨g, 2, none⟩ = some (.int .i64 z)) :
    Calls Try.prog 57 #[.slice (some ⟨g, 0, none⟩) 3 3] w fun e w' => e = .returned (.int .i64 (or3 x y z)) ∧ Below w.heap.size w w' := by
  unfold or3
  go_enter Try.func57, Try.ntmps57
  go_wp2
  by_cases hx : x = 0
  · subst hx
    by_cases hy : y = 0
    · subst hy
      by_cases hz : z = 0
      · subst hz
        refine wp_loop_rounds 4 ?_
        iterate 4 (rw [rounds_succ]; go_wp2)
        go_ret
        exact ⟨rfl, bself _⟩
      · refine wp_loop_rounds 3 ?_
        iterate 3 (rw [rounds_succ]; go_wp2)
        go_ret
        exact ⟨rfl, bself _⟩
    · refine wp_loop_rounds 2 ?_
      iterate 2 (rw [rounds_succ]; go_wp2)
      go_ret
      exact ⟨by simp, bself _⟩
  · refine wp_loop_rounds 1 ?_
    rw [rounds_succ]
    go_wp2
    go_ret
    exact ⟨by simp, bself _⟩

set_option maxHeartbeats 1000000 in
set_option maxRecDepth 100000 in
theorem cmp_ok (fam len : Int) (z : Nat → Int) (fam' len' : Int) (z' : Nat → Int) (w : World) (hz : Bytes z) (hz' : Bytes z') (hf : Form fam len z) (hf' : Form fam' len' z') :
    Calls Try.prog 28 #[.agg (pvC fam len z), .agg (pvC fam' len' z')] w fun e w' => e = .returned (.tuple #[.int .i64 (cmp1 (keyP fam len z) (keyP fam' len' z')), .int .i64 0]) ∧ Below w.heap.size w w' := by
  have HP := Lib.hid (v2_p fam len z fam' len' z' w)
  have HQ := Lib.hid (v2_q fam len z fam' len' z' w)
  have hB := Lib.hid (v2_below fam len z fam' len' z' w)
  have HC := Lib.hid (fun W => both_any fam len z fam' len' z' W hz hz')
  rw [show bothI fam len z fam' len' z' = 0 by unfold bothI; rw [if_pos ⟨hf, hf'⟩]] at HC
  have HK := Lib.hid (or3_key (fam := fam) (fam' := fam') hz hz' (sized_le hf.1) (sized_le hf'.1))
  go_enter Try.func28, Try.ntmps28
  go_wp2_with (first | (refine load_pv rfl (.tmp 2) rfl rfl HP.out ?_) | (refine load_pv rfl (.tmp 3) rfl rfl HQ.out ?_))
  refine (HC.out _).mono ?_
  rintro e1 w1 ⟨rfl, hb1⟩
  have HP1 := Lib.hid (HP.out.below hb1 HP.out.lt)
  have HQ1 := Lib.hid (HQ.out.below hb1 HQ.out.lt)
  have HB1 := Lib.hid (hB.out.trans (hb1.mono hB.out.size))
  clear hb1 HP HQ hB HC hf hf'
  go_wp2_with fail
  refine wp_region_held_drew (S := fun w' => Hid (IsPv w' w.heap.size fam len z ∧ IsPv w' (w.heap.size + 1) fam' len' z' ∧ Below w.heap.size w w')) (by kernel_rfl) ?_ (fun hHeld => ?_)
  · exact Lib.hid ⟨show IsPv _ _ _ _ _ from HP1.out, show IsPv _ _ _ _ _ from HQ1.out, HB1.out.drew⟩
  refine takeY (i := 0) (some 13) (v := (.pointer (some ⟨w.heap.size, 0, none⟩))) rfl rfl (by kernel_rfl) (by kernel_rfl) (by kernel_rfl) (fun _ _ _ h => h) (by rfl) (fun w' hS => by go_simp) (by assumption) ?_
  simp only [Act.put, List.setIfInBounds_toArray, List.set_cons_zero, List.set_cons_succ]
  refine takeY (i := 1) (some 14) (v := (.int .u8 fam)) rfl rfl (by kernel_rfl) (by kernel_rfl) (by kernel_rfl) (fun _ _ _ h => h) (by rfl) (fun w' hS => by have := hS.out.1.fam; go_simp) (by assumption) ?_
  simp only [Act.put, List.setIfInBounds_toArray, List.set_cons_zero, List.set_cons_succ]
  refine takeY (i := 2) (some 15) (v := (.pointer (some ⟨w.heap.size + 1, 0, none⟩))) rfl rfl (by kernel_rfl) (by kernel_rfl) (by kernel_rfl) (fun _ _ _ h => h) (by rfl) (fun w' hS => by go_simp) (by assumption) ?_
  simp only [Act.put, List.setIfInBounds_toArray, List.set_cons_zero, List.set_cons_succ]
  refine takeY (i := 3) (some 16) (v := (.int .u8 fam')) rfl rfl (by kernel_rfl) (by kernel_rfl) (by kernel_rfl) (fun _ _ _ h => h) (by rfl) (fun w' hS => by have := hS.out.2.1.fam; go_simp) (by assumption) ?_
  simp only [Act.put, List.setIfInBounds_toArray, List.set_cons_zero, List.set_cons_succ]
  refine takeY (i := 5) (some 18) (v := (.pointer (some ⟨w.heap.size, 2, none⟩))) rfl rfl (by kernel_rfl) (by kernel_rfl) (by kernel_rfl) (fun _ _ _ h => h) (by rfl) (fun w' hS => by go_simp) (by assumption) ?_
  simp only [Act.put, List.setIfInBounds_toArray, List.set_cons_zero, List.set_cons_succ]
  refine takeY (i := 6) (some 19) (v := (.slice (some ⟨w.heap.size, 2, none⟩) 16 16)) rfl rfl (by kernel_rfl) (by kernel_rfl) (by kernel_rfl) (fun _ _ _ h => h) (by rfl) (fun w' hS => by go_simp) (by assumption) ?_
  simp only [Act.put, List.setIfInBounds_toArray, List.set_cons_zero, List.set_cons_succ]
  refine takeY (i := 7) (some 20) (v := (.pointer (some ⟨w.heap.size + 1, 2, none⟩))) rfl rfl (by kernel_rfl) (by kernel_rfl) (by kernel_rfl) (fun _ _ _ h => h) (by rfl) (fun w' hS => by go_simp) (by assumption) ?_
  simp only [Act.put, List.setIfInBounds_toArray, List.set_cons_zero, List.set_cons_succ]
  refine takeY (i := 8) (some 21) (v := (.slice (some ⟨w.heap.size + 1, 2, none⟩) 16 16)) rfl rfl (by kernel_rfl) (by kernel_rfl) (by kernel_rfl) (fun _ _ _ h => h) (by rfl) (fun w' hS => by go_simp) (by assumption) ?_
  simp only [Act.put, List.setIfInBounds_toArray, List.set_cons_zero, List.set_cons_succ]
  refine takeY (i := 10) (some 23) (v := (.pointer (some ⟨w.heap.size, 1, none⟩))) rfl rfl (by kernel_rfl) (by kernel_rfl) (by kernel_rfl) (fun _ _ _ h => h) (by rfl) (fun w' hS => by go_simp) (by assumption) ?_
  simp only [Act.put, List.setIfInBounds_toArray, List.set_cons_zero, List.set_cons_succ]
  refine takeY (i := 11) (some 24) (v := (.int .i64 len)) rfl rfl (by kernel_rfl) (by kernel_rfl) (by kernel_rfl) (fun _ _ _ h => h) (by rfl) (fun w' hS => by have := hS.out.1.len; go_simp) (by assumption) ?_
  simp only [Act.put, List.setIfInBounds_toArray, List.set_cons_zero, List.set_cons_succ]
  refine takeY (i := 12) (some 25) (v := (.pointer (some ⟨w.heap.size + 1, 1, none⟩))) rfl rfl (by kernel_rfl) (by kernel_rfl) (by kernel_rfl) (fun _ _ _ h => h) (by rfl) (fun w' hS => by go_simp) (by assumption) ?_
  simp only [Act.put, List.setIfInBounds_toArray, List.set_cons_zero, List.set_cons_succ]
  refine takeY (i := 13) (some 26) (v := (.int .i64 len')) rfl rfl (by kernel_rfl) (by kernel_rfl) (by kernel_rfl) (fun _ _ _ h => h) (by rfl) (fun w' hS => by have := hS.out.2.1.len; go_simp) (by assumption) ?_
  simp only [Act.put, List.setIfInBounds_toArray, List.set_cons_zero, List.set_cons_succ]
  refine takeC (i := 4) (some 17) 58 #[.int .u8 fam, .int .u8 fam'] (.int .i64 (cmp1 fam fam')) rfl rfl (by kernel_rfl) (by rfl) (by go_simp) (cmp_u8 _ _ _) (fun w1 hb1 => Lib.hid ⟨hHeld.out.1.below hb1 hHeld.out.1.lt, hHeld.out.2.1.below hb1 hHeld.out.2.1.lt, hHeld.out.2.2.trans (hb1.mono hHeld.out.2.2.size)⟩) (fun w3 hb3 hH3 => ?_)
  simp only [Act.put, List.setIfInBounds_toArray, List.set_cons_zero, List.set_cons_succ]
  refine takeC (i := 9) (some 22) 59 #[.slice (some ⟨w.heap.size, 2, none⟩) 16 16, .slice (some ⟨w.heap.size + 1, 2, none⟩) 16 16] (.int .i64 (cmp1 (keyZ z 0 16) (keyZ z' 0 16))) rfl rfl (by kernel_rfl) (by rfl) (by go_simp) (cmp_ag _ _ z z' _ hz hz' (addr_cells hH3.out.1) (addr_cells hH3.out.2.1)) (fun w1 hb1 => Lib.hid ⟨hH3.out.1.below hb1 hH3.out.1.lt, hH3.out.2.1.below hb1 hH3.out.2.1.lt, hH3.out.2.2.trans (hb1.mono hH3.out.2.2.size)⟩) (fun w4 hb4 hH4 => ?_)
  simp only [Act.put, List.setIfInBounds_toArray, List.set_cons_zero, List.set_cons_succ]
  refine takeC (i := 14) (some 27) 60 #[.int .i64 len, .int .i64 len'] (.int .i64 (cmp1 len len')) rfl rfl (by kernel_rfl) (by rfl) (by go_simp) (cmp_int _ _ _) (fun w1 hb1 => Lib.hid ⟨hH4.out.1.below hb1 hH4.out.1.lt, hH4.out.2.1.below hb1 hH4.out.2.1.lt, hH4.out.2.2.trans (hb1.mono hH4.out.2.2.size)⟩) (fun w5 hb5 hH5 => ?_)
  simp only [Act.put, List.setIfInBounds_toArray, List.set_cons_zero, List.set_cons_succ]
  refine takeV (i := 15) (some 28) (v := .slice (some ⟨w5.heap.size, 0, none⟩) 3 3) (w' := w5.alloc (.cells #[.int .i64 (cmp1 fam fam'), .int .i64 (cmp1 (keyZ z 0 16) (keyZ z' 0 16)), .int .i64 (cmp1 len len')] 3)) rfl rfl (by kernel_rfl) (by rfl) (by go_simp) (Lib.hid ⟨hH5.out.1.below ((bself w5).alloc (Nat.le_refl _) _) hH5.out.1.lt, hH5.out.2.1.below ((bself w5).alloc (Nat.le_refl _) _) hH5.out.2.1.lt, hH5.out.2.2.alloc hH5.out.2.2.size _⟩) ?_
  simp only [Act.put, List.setIfInBounds_toArray, List.set_cons_zero, List.set_cons_succ]
  have hH6 : Hid (IsPv (w5.alloc (.cells #[.int .i64 (cmp1 fam fam'), .int .i64 (cmp1 (keyZ z 0 16) (keyZ z' 0 16)), .int .i64 (cmp1 len len')] 3)) w.heap.size fam len z ∧ IsPv (w5.alloc (.cells #[.int .i64 (cmp1 fam fam'), .int .i64 (cmp1 (keyZ z 0 16) (keyZ z' 0 16)), .int .i64 (cmp1 len len')] 3)) (w.heap.size + 1) fam' len' z' ∧ Below w.heap.size w (w5.alloc (.cells #[.int .i64 (cmp1 fam fam'), .int .i64 (cmp1 (keyZ z 0 16) (keyZ z' 0 16)), .int .i64 (cmp1 len len')] 3))) := Lib.hid ⟨hH5.out.1.below ((bself w5).alloc (Nat.le_refl _) _) hH5.out.1.lt, hH5.out.2.1.below ((bself w5).alloc (Nat.le_refl _) _) hH5.out.2.1.lt, hH5.out.2.2.alloc hH5.out.2.2.size _⟩
  refine takeC (i := 16) (some 29) 57 #[.slice (some ⟨w5.heap.size, 0, none⟩) 3 3] (.int .i64 (or3 (cmp1 fam fam') (cmp1 (keyZ z 0 16) (keyZ z' 0 16)) (cmp1 len len'))) rfl rfl (by kernel_rfl) (by rfl) (by go_simp) (or_any _ _ _ _ _ (World.cell?_alloc_mark w5 _ _ _ 0) (World.cell?_alloc_mark w5 _ _ _ 1) (World.cell?_alloc_mark w5 _ _ _ 2)) (fun w1 hb1 => Lib.hid ⟨hH6.out.1.below hb1 hH6.out.1.lt, hH6.out.2.1.below hb1 hH6.out.2.1.lt, hH6.out.2.2.trans (hb1.mono hH6.out.2.2.size)⟩) (fun w7 hb7 hH7 => ?_)
  simp only [Act.put, List.setIfInBounds_toArray, List.set_cons_zero, List.set_cons_succ]
  refine takeY (i := 17) (some 4) (v := (.int .i64 (or3 (cmp1 fam fam') (cmp1 (keyZ z 0 16) (keyZ z' 0 16)) (cmp1 len len')))) rfl rfl (by kernel_rfl) (by kernel_rfl) (by kernel_rfl) (fun _ _ _ h => h) (by rfl) (fun w' hS => by go_simp) (by assumption) ?_
  simp only [Act.put, List.setIfInBounds_toArray, List.set_cons_zero, List.set_cons_succ]
  refine takeY (i := 18) (some 5) (v := (.int .i64 0)) rfl rfl (by kernel_rfl) (by kernel_rfl) (by kernel_rfl) (fun _ _ _ h => h) (by rfl) (fun w' hS => by go_simp) (by assumption) ?_
  simp only [Act.put, List.setIfInBounds_toArray, List.set_cons_zero, List.set_cons_succ]
  refine wpAnyH_done (by kernel_rfl) ?_ _
  go_wp2
  go_ret2
  exact ⟨by rw [← HK.out]; rfl, hH7.out.2.2⟩

set_option maxHeartbeats 400000 in
set_option maxRecDepth 100000 in
theorem cmp_form (fam len : Int) (z : Nat → Int) (fam' len' : Int) (z' : Nat → Int) (w : World) (hz : Bytes z) (hz' : Bytes z') (hf : ¬ (Form fam len z ∧ Form fam' len' z')) :
    Calls Try.prog 28 #[.agg (pvC fam len z), .agg (pvC fam' len' z')] w fun e w' => e = .returned (.tuple #[.int .i64 0, .int .i64 3]) ∧ Below w.heap.size w w' := by
  have HP := Lib.hid (v2_p fam len z fam' len' z' w)
  have HQ := Lib.hid (v2_q fam len z fam' len' z' w)
  have hB := Lib.hid (v2_below fam len z fam' len' z' w)
  have HC := Lib.hid (fun W => both_any fam len z fam' len' z' W hz hz')
  rw [show bothI fam len z fam' len' z' = 3 by unfold bothI; rw [if_neg hf]] at HC
  go_enter Try.func28, Try.ntmps28
  go_wp2_with (first | (refine load_pv rfl (.tmp 2) rfl rfl HP.out ?_) | (refine load_pv rfl (.tmp 3) rfl rfl HQ.out ?_))
  refine (HC.out _).mono ?_
  rintro e1 w1 ⟨rfl, hb1⟩
  have HB1 := Lib.hid (hB.out.trans (hb1.mono hB.out.size))
  clear hb1
  go_wp2_with fail
  go_ret2
  exact ⟨rfl, HB1.out⟩
end Go.Proofs.Ytjnbemopfhinbaa
