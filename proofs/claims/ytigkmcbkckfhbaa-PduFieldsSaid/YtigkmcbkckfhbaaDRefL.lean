/- The document's Entries writes entries as bytes. Each theorem states its conditions. -/
import Derived.Test.YtigkmcbkckfhbaaDRefI
import Derived.Test.YtigkmcbkckfhbaaDPutL
namespace Go.Proofs.Ytigkmcbkckfhbaa
open Go.RowKit
set_option linter.unusedVariables false

theorem info_id8 (z : Nat → Int) : (Try.prog.info? 27).map (·.size) = some (idC z).toList.length := by kernel_rfl
theorem en_id {w : World} {X : Nat} {E : En} (h : w.heap[X]? = some (.cells (enC E) 96 (0, 0))) : w.rangeAt X 0 (idC E.s).toList := by
  intro j u hj
  rw [Nat.zero_add, cell_of_row w X j _ _ _ h]
  rw [Array.getElem?_toList] at hj
  have h8 : j < 8 := by
    rcases Nat.lt_or_ge j 8 with h | h
    · exact h
    · rw [Array.getElem?_eq_none (by show 8 ≤ j; exact h)] at hj; cases hj
  rw [← hj]
  rcases (by omega : j = 0 ∨ j = 1 ∨ j = 2 ∨ j = 3 ∨ j = 4 ∨ j = 5 ∨ j = 6 ∨ j = 7) with rfl | rfl | rfl | rfl | rfl | rfl | rfl | rfl <;> rfl
theorem wI' (N : Nat) (h : N ≤ 65535) : IntKind.i64.wrap (N : Int) = (N : Int) := by simp [IntKind.wrap, IntKind.signed, IntKind.bits]; omega
set_option maxHeartbeats 4000000 in
set_option maxRecDepth 100000 in
theorem refEntries_any (A : Option Addr) (m c : Nat) (L : Nat → En) (w : World) (h : RdR w A m 11 (enA L)) (hL : ∀ j, EnOk (L j)) (hm : m ≤ 15) (hM : ∀ k, k < m → 0 ≤ (L k).li ∧ (L k).li ≤ 65535) :
    Calls Try.prog 54 #[.slice A m c] w fun e w' => ∃ v, e = .returned v ∧ OwnB w' w.heap.size v (16 * m) (enZ L) ∧ Below w.heap.size w w' := by
  have HM := Lib.hid hM
  have HR := Lib.hid h
  have HB := Lib.hid (enZ_bd L hL)
  have HOK := Lib.hid hL
  have q0 : (m : Int) ≤ 15 := by omega
  clear h hL hM
  go_enter Try.func54, Try.ntmps54
  go_wp2_with fail
  go_loopw [3, 8] (fun p i wr => ∃ k : Nat, k ≤ m ∧ i = .int .i64 k ∧ Hid (OwnB wr w.heap.size p (16 * k) (enZ L)) ∧ Hid (Below w.heap.size w wr))
    (fun _ i _ => m - (intOf i).toNat)
  case atStart => exact ⟨0, by omega, rfl, Lib.hid (OwnB.nil w _ HB.out), Lib.hid (bself w)⟩
  case round =>
    obtain ⟨k, hk, rfl, HO, HW⟩ := hrel
    by_cases hkm : k < m
    · obtain ⟨b, off, rfl, hr⟩ := (HR.out.below HW.out rfl).row (by omega)
      obtain ⟨⟨c0, c1, c2, c3⟩, ⟨c4, c5, c6, c7⟩, c8, c9, c10⟩ := enC_cells (hr.2 k hkm)
      clear hr
      have hki : (k : Int) < (m : Int) := by omega
      have hOk := HOK.out k
      have hl := HM.out k hkm
      have hn0 := Lib.hid (enZ_push L k)
      obtain ⟨E, hE⟩ : ∃ E, L k = E := ⟨_, rfl⟩
      have HE := Lib.hid hE
      rw [hE] at c0 c1 c2 c3 c4 c5 c6 c7 c8 c9 c10 hOk hl hn0
      have HES := Lib.hid hOk.1
      have hsq := hOk.2.1
      have hsu := hOk.2.2.2
      obtain ⟨N, hN⟩ : ∃ N : Nat, E.li = (N : Int) := ⟨E.li.toNat, by omega⟩
      rw [hN] at c9 hn0 hl
      rw [Int.toNat_natCast] at hn0
      have HN := Lib.hid hN
      have hN2 : N ≤ 65535 := by omega
      clear hE hN hl hOk
      obtain ⟨wo, rfl⟩ : ∃ wo : World, wo = wr := ⟨_, rfl⟩
      have hbw0 := (bself wo).alloc (Nat.le_refl _) (.cells (enC E) 96)
      have hwr : w.heap.size ≤ wo.heap.size := HW.out.size
      have hX0 := heap_alloc_new wo (.cells (enC E) 96)
      have hO0 := ownsRow_below' HO.out.1 hbw0
      have hW0 := HW.out.trans (hbw0.mono hwr)
      have hf0 : u3.ownBlock ≠ some wo.heap.size := (fun e => by have := (HO.out.1.lt _ e).2; omega)
      have hX0' : (wo.alloc (.cells #[.int .u8 (E.s 0), .int .u8 (E.s 1), .int .u8 (E.s 2), .int .u8 (E.s 3), .int .u8 (E.s 4), .int .u8 (E.s 5), .int .u8 (E.s 6), .int .u8 (E.s 7), .int .u32 (E.sq : Int), .int .i64 (N : Int), .int .u16 (E.su : Int)] 96)) = wo.alloc (.cells (enC E) 96) := by unfold enC; rw [HN.out]
      have hsz0 : (wo.alloc (.cells (enC E) 96)).heap.size = wo.heap.size + 1 := by simp
      obtain ⟨W0, hWW⟩ : ∃ W0, wo.alloc (.cells (enC E) 96) = W0 := ⟨_, rfl⟩
      rw [hWW] at hX0 hO0 hW0 hX0' hsz0
      have HX0 := Lib.hid hX0
      have HO0 := Lib.hid hO0
      have HW0 := Lib.hid hW0
      have HF0 := Lib.hid hf0
      have HWW := Lib.hid hX0'
      clear hX0 hO0 hW0 hf0 hX0' hbw0 hWW
      go_wp2_with fail
      rw [HWW.out]
      · skip
        refine wp_region_held_drew (S := fun w' => w'.heap[wo.heap.size]? = some (.cells (enC E) 96 (0, 0))) (by kernel_rfl) HX0.out (fun hS0 => ?_)
        refine takeY (i := 0) (some 12) (v := u3) rfl rfl (by kernel_rfl) (by kernel_rfl) (by kernel_rfl) (fun _ _ _ h => h) (by rfl) (fun w' hS => by go_simp) hS0 ?_
        simp only [Act.put, List.setIfInBounds_toArray, List.set_cons_zero, List.set_cons_succ]
        refine takeY (i := 1) (some 13) (v := .pointer (some ⟨wo.heap.size, 9, none⟩)) rfl rfl (by kernel_rfl) (by kernel_rfl) (by kernel_rfl) (fun _ _ _ h => h) (by rfl) (fun w' hS => by go_simp) hS0 ?_
        simp only [Act.put, List.setIfInBounds_toArray, List.set_cons_zero, List.set_cons_succ]
        refine takeY (i := 2) (some 14) (v := .int .i64 (N : Int)) rfl rfl (by kernel_rfl) (by kernel_rfl) (by kernel_rfl) (fun _ _ _ h => h) (by rfl) (fun w' hS => by have cx : w'.cell? ⟨wo.heap.size, 9, none⟩ = some (.int .i64 (N : Int)) := (cell_of_row w' _ 9 _ _ _ hS).trans (by show some (Value.int .i64 E.li) = _; rw [HN.out]); clear hS; go_simp) hS0 ?_
        simp only [Act.put, List.setIfInBounds_toArray, List.set_cons_zero, List.set_cons_succ]
        refine takeY (i := 5) (some 17) (v := .pointer (some ⟨wo.heap.size, 0, none⟩)) rfl rfl (by kernel_rfl) (by kernel_rfl) (by kernel_rfl) (fun _ _ _ h => h) (by rfl) (fun w' hS => by go_simp) hS0 ?_
        simp only [Act.put, List.setIfInBounds_toArray, List.set_cons_zero, List.set_cons_succ]
        refine takeL (i := 6) (some 18) 27 (.tmp 17) wo.heap.size 0 (idC E.s) _ rfl rfl (by kernel_rfl) (by kernel_rfl) (by kernel_rfl) (fun _ _ _ h => h) (by rfl) rfl rfl (fun w' hS => en_id hS) Try.underlying27 rfl (info_id8 E.s) hS0 ?_
        simp only [Act.put, List.setIfInBounds_toArray, List.set_cons_zero, List.set_cons_succ]
        refine takeCE (i := 3) (some 15) 61 #[.int .i64 (N : Int)] (R := fun v w' => ∃ g, v = .slice (some ⟨g, 0, none⟩) 2 2 ∧ (W0).heap.size ≤ g ∧ Own8 w' g 2 2 (putZ N 2) ∧ Below (W0).heap.size (W0) w') rfl rfl (by kernel_rfl) (by rfl) (by go_simp) ((two_any N _ (by omega)).mono fun e w' h => by obtain ⟨g, h1, h2, h3, h4⟩ := h; exact ⟨_, h1, g, rfl, h2, h3, (bself W0).drew.trans h4⟩) (fun v w' h => by obtain ⟨_, _, _, _, h4⟩ := h; exact (h4.block _ (by omega)).trans HX0.out) (fun v w1 h1 hS1 => ?_)
        simp only [Act.put, List.setIfInBounds_toArray, List.set_cons_zero, List.set_cons_succ]
        obtain ⟨g, rfl, hg, hog, hb1⟩ := h1
        have hw1 := hb1.size
        have HGn := Lib.hid hog
        have HO1 := Lib.hid (ownsRow_below' HO0.out hb1)
        have HB1 := Lib.hid (HW0.out.trans (hb1.mono HW0.out.size))
        have HN1 := Lib.hid hS1
        have HL1 : Hid (wo.heap.size < w1.heap.size) := Lib.hid (by omega)
        clear hog hb1 hS1 hS0
        refine takeA (i := 4) (some 16) (.tmp 12) (.tmp 15) rfl rfl (by kernel_rfl) (by rfl) rfl w u3 (16 * k) (vals (enZ L) (16 * k)) rfl HO1.out HB1.out ⟨g, 0, none⟩ 2 2 (vals (putZ N 2) 2) rfl (vals_len _ _) (rd_newsB HGn.out.rd) (vals_one _ _) (by omega) (fun v2 w2 ho3 hb3 hs3 hk3 => ⟨(hk3 wo.heap.size HL1.out HF0.out).1.trans HN1.out, ?_⟩)
        simp only [Act.put, List.setIfInBounds_toArray, List.set_cons_zero, List.set_cons_succ]
        have hS0 : w2.heap[wo.heap.size]? = some (.cells (enC E) 96 (0, 0)) := (hk3 wo.heap.size HL1.out HF0.out).1.trans HN1.out
        have HX3 := Lib.hid hS0
        have HF3 := Lib.hid (hk3 wo.heap.size HL1.out HF0.out).2
        have HO3 := Lib.hid ho3
        have HB3 := Lib.hid hb3
        have hsz3 : wo.heap.size < w2.heap.size := by have := HL1.out; omega
        clear ho3 hb3 hs3 hk3 HO1 HB1 HN1 HL1 HGn hg hw1 HX0 HF0 HO0 HW0 hsz0
        have HX0 := HX3
        have HF0 := HF3
        have HO0 := HO3
        have HW0 := HB3
        have hsz0 := hsz3
        clear HX3 HF3 HO3 HB3 hsz3
        refine takeCE (i := 7) (some 19) 63 #[.agg (idC E.s)] (R := fun v w' => ∃ g : Nat × Nat, v = .slice (some ⟨g.1, 0, none⟩) 8 g.2 ∧ w2.heap.size ≤ g.1 ∧ Own8 w' g.1 8 g.2 E.s ∧ Below w2.heap.size w2 w') rfl rfl (by kernel_rfl) (by rfl) (by go_simp) ((refID_any E.s _ HES.out).mono fun e w' h => by obtain ⟨v, h1, h2, h3⟩ := h; obtain ⟨g, cap, hv, hg, hog⟩ := own_ofB h2 (by omega); exact ⟨v, h1, (g, cap), hv, hg, hog, h3⟩) (fun v w' h => by obtain ⟨_, _, _, _, h4⟩ := h; exact (h4.block _ (by omega)).trans HX0.out) (fun v w1 h1 hS1 => ?_)
        simp only [Act.put, List.setIfInBounds_toArray, List.set_cons_zero, List.set_cons_succ]
        obtain ⟨g, rfl, hg, hog, hb1⟩ := h1
        have hw1 := hb1.size
        have HGn := Lib.hid hog
        have HO1 := Lib.hid (ownsRow_below' HO0.out hb1)
        have HB1 := Lib.hid (HW0.out.trans (hb1.mono HW0.out.size))
        have HN1 := Lib.hid hS1
        have HL1 : Hid (wo.heap.size < w1.heap.size) := Lib.hid (by omega)
        clear hog hb1 hS1 hS0
        refine takeA (i := 8) (some 20) (.tmp 16) (.tmp 19) rfl rfl (by kernel_rfl) (by rfl) rfl w v2 (16 * k + 2) (_) rfl HO1.out HB1.out ⟨g.1, 0, none⟩ 8 g.2 (vals (E.s) 8) rfl (vals_len _ _) (rd_newsB HGn.out.rd) (vals_one _ _) (by omega) (fun v3 w3 ho3 hb3 hs3 hk3 => ⟨(hk3 wo.heap.size HL1.out HF0.out).1.trans HN1.out, ?_⟩)
        simp only [Act.put, List.setIfInBounds_toArray, List.set_cons_zero, List.set_cons_succ]
        have hS0 : w3.heap[wo.heap.size]? = some (.cells (enC E) 96 (0, 0)) := (hk3 wo.heap.size HL1.out HF0.out).1.trans HN1.out
        have HX3 := Lib.hid hS0
        have HF3 := Lib.hid (hk3 wo.heap.size HL1.out HF0.out).2
        have HO3 := Lib.hid ho3
        have HB3 := Lib.hid hb3
        have hsz3 : wo.heap.size < w3.heap.size := by have := HL1.out; omega
        clear ho3 hb3 hs3 hk3 HO1 HB1 HN1 HL1 HGn hg hw1 HX0 HF0 HO0 HW0 hsz0
        have HX0 := HX3
        have HF0 := HF3
        have HO0 := HO3
        have HW0 := HB3
        have hsz0 := hsz3
        clear HX3 HF3 HO3 HB3 hsz3
        refine takeY (i := 9) (some 3) (v := v3) rfl rfl (by kernel_rfl) (by kernel_rfl) (by kernel_rfl) (fun _ _ _ h => h) (by rfl) (fun w' hS => by go_simp) hS0 ?_
        simp only [Act.put, List.setIfInBounds_toArray, List.set_cons_zero, List.set_cons_succ]
        refine wpAnyH_done (by kernel_rfl) ?_ _
        clear hS0
        go_wp2_with fail
        refine wp_region_held_drew (S := fun w' => w'.heap[wo.heap.size]? = some (.cells (enC E) 96 (0, 0))) (by kernel_rfl) HX0.out (fun hS0 => ?_)
        refine takeY (i := 0) (some 21) (v := v3) rfl rfl (by kernel_rfl) (by kernel_rfl) (by kernel_rfl) (fun _ _ _ h => h) (by rfl) (fun w' hS => by go_simp) hS0 ?_
        simp only [Act.put, List.setIfInBounds_toArray, List.set_cons_zero, List.set_cons_succ]
        refine takeY (i := 1) (some 22) (v := .pointer (some ⟨wo.heap.size, 8, none⟩)) rfl rfl (by kernel_rfl) (by kernel_rfl) (by kernel_rfl) (fun _ _ _ h => h) (by rfl) (fun w' hS => by go_simp) hS0 ?_
        simp only [Act.put, List.setIfInBounds_toArray, List.set_cons_zero, List.set_cons_succ]
        refine takeY (i := 2) (some 23) (v := .int .u32 (E.sq : Int)) rfl rfl (by kernel_rfl) (by kernel_rfl) (by kernel_rfl) (fun _ _ _ h => h) (by rfl) (fun w' hS => by have cx : w'.cell? ⟨wo.heap.size, 8, none⟩ = some (.int .u32 (E.sq : Int)) := (cell_of_row w' _ 8 _ _ _ hS).trans rfl; clear hS; go_simp) hS0 ?_
        simp only [Act.put, List.setIfInBounds_toArray, List.set_cons_zero, List.set_cons_succ]
        refine takeY (i := 3) (some 24) (v := .int .u64 (E.sq : Int)) rfl rfl (by kernel_rfl) (by kernel_rfl) (by kernel_rfl) (fun _ _ _ h => h) (by rfl) (fun w' hS => by first | (go_simp; done) | (go_simp; exact wrapU _ (by omega))) hS0 ?_
        simp only [Act.put, List.setIfInBounds_toArray, List.set_cons_zero, List.set_cons_succ]
        refine takeY (i := 6) (some 27) (v := .pointer (some ⟨wo.heap.size, 10, none⟩)) rfl rfl (by kernel_rfl) (by kernel_rfl) (by kernel_rfl) (fun _ _ _ h => h) (by rfl) (fun w' hS => by go_simp) hS0 ?_
        simp only [Act.put, List.setIfInBounds_toArray, List.set_cons_zero, List.set_cons_succ]
        refine takeY (i := 7) (some 28) (v := .int .u16 (E.su : Int)) rfl rfl (by kernel_rfl) (by kernel_rfl) (by kernel_rfl) (fun _ _ _ h => h) (by rfl) (fun w' hS => by have cx : w'.cell? ⟨wo.heap.size, 10, none⟩ = some (.int .u16 (E.su : Int)) := (cell_of_row w' _ 10 _ _ _ hS).trans rfl; clear hS; go_simp) hS0 ?_
        simp only [Act.put, List.setIfInBounds_toArray, List.set_cons_zero, List.set_cons_succ]
        refine takeY (i := 8) (some 29) (v := .int .i64 (E.su : Int)) rfl rfl (by kernel_rfl) (by kernel_rfl) (by kernel_rfl) (fun _ _ _ h => h) (by rfl) (fun w' hS => by first | (go_simp; done) | (go_simp; exact wI' _ (by omega))) hS0 ?_
        simp only [Act.put, List.setIfInBounds_toArray, List.set_cons_zero, List.set_cons_succ]
        refine takeCE (i := 4) (some 25) 64 #[.int .u64 (E.sq : Int), .int .i64 4] (R := fun v w' => ∃ g, v = .slice (some ⟨g, 0, none⟩) 4 4 ∧ (w3).heap.size ≤ g ∧ Own8 w' g 4 4 (putZ E.sq 4) ∧ Below (w3).heap.size (w3) w') rfl rfl (by kernel_rfl) (by rfl) (by go_simp) ((bytes_any E.sq 4 _ (by omega) (by omega) (by omega)).mono fun e w' h => by obtain ⟨g, h1, h2, h3, h4⟩ := h; exact ⟨_, h1, g, rfl, h2, h3, (bself w3).drew.trans h4⟩) (fun v w' h => by obtain ⟨_, _, _, _, h4⟩ := h; exact (h4.block _ (by omega)).trans HX0.out) (fun v w1 h1 hS1 => ?_)
        simp only [Act.put, List.setIfInBounds_toArray, List.set_cons_zero, List.set_cons_succ]
        obtain ⟨g, rfl, hg, hog, hb1⟩ := h1
        have hw1 := hb1.size
        have HGn := Lib.hid hog
        have HO1 := Lib.hid (ownsRow_below' HO0.out hb1)
        have HB1 := Lib.hid (HW0.out.trans (hb1.mono HW0.out.size))
        have HN1 := Lib.hid hS1
        have HL1 : Hid (wo.heap.size < w1.heap.size) := Lib.hid (by omega)
        clear hog hb1 hS1 hS0
        refine takeA (i := 5) (some 26) (.tmp 21) (.tmp 25) rfl rfl (by kernel_rfl) (by rfl) rfl w v3 (16 * k + 2 + 8) (_) rfl HO1.out HB1.out ⟨g, 0, none⟩ 4 4 (vals (putZ E.sq 4) 4) rfl (vals_len _ _) (rd_newsB HGn.out.rd) (vals_one _ _) (by omega) (fun v4 w4 ho3 hb3 hs3 hk3 => ⟨(hk3 wo.heap.size HL1.out HF0.out).1.trans HN1.out, ?_⟩)
        simp only [Act.put, List.setIfInBounds_toArray, List.set_cons_zero, List.set_cons_succ]
        have hS0 : w4.heap[wo.heap.size]? = some (.cells (enC E) 96 (0, 0)) := (hk3 wo.heap.size HL1.out HF0.out).1.trans HN1.out
        have HX3 := Lib.hid hS0
        have HF3 := Lib.hid (hk3 wo.heap.size HL1.out HF0.out).2
        have HO3 := Lib.hid ho3
        have HB3 := Lib.hid hb3
        have hsz3 : wo.heap.size < w4.heap.size := by have := HL1.out; omega
        clear ho3 hb3 hs3 hk3 HO1 HB1 HN1 HL1 HGn hg hw1 HX0 HF0 HO0 HW0 hsz0
        have HX0 := HX3
        have HF0 := HF3
        have HO0 := HO3
        have HW0 := HB3
        have hsz0 := hsz3
        clear HX3 HF3 HO3 HB3 hsz3
        refine takeCE (i := 9) (some 30) 61 #[.int .i64 (E.su : Int)] (R := fun v w' => ∃ g, v = .slice (some ⟨g, 0, none⟩) 2 2 ∧ (w4).heap.size ≤ g ∧ Own8 w' g 2 2 (putZ E.su 2) ∧ Below (w4).heap.size (w4) w') rfl rfl (by kernel_rfl) (by rfl) (by go_simp) ((two_any E.su _ (by omega)).mono fun e w' h => by obtain ⟨g, h1, h2, h3, h4⟩ := h; exact ⟨_, h1, g, rfl, h2, h3, h4⟩) (fun v w' h => by obtain ⟨_, _, _, _, h4⟩ := h; exact (h4.block _ (by omega)).trans HX0.out) (fun v w1 h1 hS1 => ?_)
        simp only [Act.put, List.setIfInBounds_toArray, List.set_cons_zero, List.set_cons_succ]
        obtain ⟨g, rfl, hg, hog, hb1⟩ := h1
        have hw1 := hb1.size
        have HGn := Lib.hid hog
        have HO1 := Lib.hid (ownsRow_below' HO0.out hb1)
        have HB1 := Lib.hid (HW0.out.trans (hb1.mono HW0.out.size))
        have HN1 := Lib.hid hS1
        have HL1 : Hid (wo.heap.size < w1.heap.size) := Lib.hid (by omega)
        clear hog hb1 hS1 hS0
        refine takeA (i := 10) (some 31) (.tmp 26) (.tmp 30) rfl rfl (by kernel_rfl) (by rfl) rfl w v4 (16 * k + 2 + 8 + 4) (_) rfl HO1.out HB1.out ⟨g, 0, none⟩ 2 2 (vals (putZ E.su 2) 2) rfl (vals_len _ _) (rd_newsB HGn.out.rd) (vals_one _ _) (by omega) (fun v9 w9 ho3 hb3 hs3 hk3 => ⟨(hk3 wo.heap.size HL1.out HF0.out).1.trans HN1.out, ?_⟩)
        simp only [Act.put, List.setIfInBounds_toArray, List.set_cons_zero, List.set_cons_succ]
        have hS0 : w9.heap[wo.heap.size]? = some (.cells (enC E) 96 (0, 0)) := (hk3 wo.heap.size HL1.out HF0.out).1.trans HN1.out
        have HX3 := Lib.hid hS0
        have HF3 := Lib.hid (hk3 wo.heap.size HL1.out HF0.out).2
        have HO3 := Lib.hid ho3
        have HB3 := Lib.hid hb3
        have hsz3 : wo.heap.size < w9.heap.size := by have := HL1.out; omega
        clear ho3 hb3 hs3 hk3 HO1 HB1 HN1 HL1 HGn hg hw1 HX0 HF0 HO0 HW0 hsz0
        have HX0 := HX3
        have HF0 := HF3
        have HO0 := HO3
        have HW0 := HB3
        have hsz0 := hsz3
        clear HX3 HF3 HO3 HB3 hsz3
        refine takeY (i := 11) (some 3) (v := v9) rfl rfl (by kernel_rfl) (by kernel_rfl) (by kernel_rfl) (fun _ _ _ h => h) (by rfl) (fun w' hS => by go_simp) hS0 ?_
        simp only [Act.put, List.setIfInBounds_toArray, List.set_cons_zero, List.set_cons_succ]
        refine wpAnyH_done (by kernel_rfl) ?_ _
        have HOF : Hid (OwnB w9 w.heap.size v9 (16 * (k + 1)) (enZ L)) := Lib.hid (by
          have h := HO0.out
          rw [hn0.out] at h
          exact ⟨h, HB.out⟩)
        clear hS0
        go_wp2_with fail
        go_roundw
        case rel => first | exact ⟨k + 1, by omega, by go_num, HOF, HW0⟩ | exact ⟨_, _, _, ⟨k + 1, by omega, by go_num, HOF, HW0⟩, rfl, rfl, rfl⟩
        case measure => simp only [intOf]; omega
    · obtain rfl : k = m := by omega
      go_wp2
      go_ret
      exact ⟨_, rfl, HO.out, HW.out⟩
end Go.Proofs.Ytigkmcbkckfhbaa
