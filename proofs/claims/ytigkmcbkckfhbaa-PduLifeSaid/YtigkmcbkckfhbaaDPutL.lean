/- pdu.PutEntries writes entries as bytes. Each theorem states its conditions. -/
import Derived.Test.YtigkmcbkckfhbaaDPutI
namespace Go.Proofs.Ytigkmcbkckfhbaa
open Go.RowKit
set_option linter.unusedVariables false

/-- the first m0 lives fit; behind them the list ends, or one doesn't fit -/
def NEnds (L : Nat → En) (m m0 : Nat) : Prop := m0 ≤ m ∧ (∀ k, k < m0 → 0 ≤ (L k).li ∧ (L k).li ≤ 65535) ∧ (m0 = m ∨ (m0 < m ∧ ((L m0).li < 0 ∨ 65535 < (L m0).li)))
theorem nends (L : Nat → En) (m : Nat) : ∃ m0, NEnds L m m0 := by
  induction m with
  | zero => exact ⟨0, by omega, fun k hk => by omega, .inl rfl⟩
  | succ m ih =>
    obtain ⟨m0, h1, h2, h3⟩ := ih
    rcases h3 with rfl | ⟨h3, h4⟩
    · by_cases hb : (L m0).li < 0 ∨ 65535 < (L m0).li
      · exact ⟨m0, by omega, h2, .inr ⟨by omega, hb⟩⟩
      · refine ⟨m0 + 1, by omega, fun k hk => ?_, .inl rfl⟩
        by_cases e : k = m0
        · subst e; omega
        · exact h2 k (by omega)
    · exact ⟨m0, by omega, h2, .inr ⟨by omega, h4⟩⟩
/-- what PutEntries leaves -/
def PutNPost (w : World) (L : Nat → En) (m m0 : Nat) (e : Ending) (w' : World) : Prop :=
  (m0 < m ∧ e = .returned (.tuple #[.slice none 0 0, .int .i64 1]) ∧ Below w.heap.size w w') ∨
  (m0 = m ∧ 15 < m ∧ e = .returned (.tuple #[.slice none 0 0, .int .i64 2]) ∧ Below w.heap.size w w') ∨
  (m0 = m ∧ m ≤ 15 ∧ ∃ v, e = .returned (.tuple #[v, .int .i64 0]) ∧ OwnB w' w.heap.size v (16 * m) (enZ L) ∧ Below w.heap.size w w')
theorem qN_fit (N k : Nat) (h : N < 256 ^ k) : qN N k = 0 := Nat.div_eq_of_lt h
theorem wrapU (N : Nat) (h : N ≤ 4294967295) : IntKind.u64.wrap (N : Int) = (N : Int) := by simp [IntKind.wrap, IntKind.signed, IntKind.bits]; omega
theorem own_ofB {w : World} {base n : Nat} {v : Value} {z : Nat → Int} (h : OwnB w base v n z) (hn : 0 < n) : ∃ g cap, v = .slice (some ⟨g, 0, none⟩) n cap ∧ base ≤ g ∧ Own8 w g n cap z := by
  obtain ⟨g0, cap0, hv, _⟩ := h.1.form (by omega)
  exact own_of h.1 rfl (by rw [hv]; simp) h.2

set_option maxHeartbeats 4000000 in
set_option maxRecDepth 100000 in
theorem putEntries_any (A : Option Addr) (m c m0 : Nat) (L : Nat → En) (w : World) (h : RdR w A m 11 (enA L)) (hL : ∀ j, EnOk (L j)) (hc : m ≤ c) (hcm : c ≤ 9223372036854775807) (hm0 : NEnds L m m0) :
    Calls Try.prog 22 #[.slice A m c] w (PutNPost w L m m0) := by
  have HM := Lib.hid hm0
  have HR := Lib.hid h
  have HB := Lib.hid (enZ_bd L hL)
  have HOK := Lib.hid hL
  have hm0' := hm0.1
  clear h hm0 hL
  go_enter Try.func22, Try.ntmps22
  go_wp2_with fail
  go_loopw [11] (fun i wr => ∃ k : Nat, k ≤ m0 ∧ i = .int .i64 k ∧ Hid (Below w.heap.size w wr))
    (fun i _ => m - (intOf i).toNat)
  case atStart => exact ⟨0, by omega, rfl, Lib.hid (bself w)⟩
  case round =>
    obtain ⟨k, hk, rfl, HW⟩ := hrel
    by_cases hkm : k < m
    · obtain ⟨b, off, rfl, hr⟩ := (HR.out.below HW.out rfl).row (by omega)
      obtain ⟨⟨c0, c1, c2, c3⟩, ⟨c4, c5, c6, c7⟩, c8, c9, c10⟩ := enC_cells (hr.2 k hkm)
      clear hr
      have hki : (k : Int) < (m : Int) := by omega
      have hOk := Lib.hid (HOK.out k)
      have hHm := Lib.hid HM.out.2
      obtain ⟨E, hE⟩ : ∃ E, L k = E := ⟨_, rfl⟩
      have HE := Lib.hid hE
      rw [hE] at c0 c1 c2 c3 c4 c5 c6 c7 c8 c9 c10 hOk
      have hB0 := Lib.hid (HW.out.alloc HW.out.size (.cells (enC E) 96))
      have q1 := hOk.out.2.2.1.1
      have q2 := hOk.out.2.2.1.2
      by_cases hk0 : k < m0
      · have hl := hHm.out.1 k hk0
        rw [hE] at hl
        clear hE
        go_wp2_with fail
        refine (isTime_yes E.li _ hl.1 hl.2).mono ?_
        rintro e w1 ⟨rfl, hw1⟩
        have hB1 : Hid (Below w.heap.size w w1) := Lib.hid (by rw [hw1]; exact hB0.out)
        clear hw1 c0 c1 c2 c3 c4 c5 c6 c7 c8 c9 c10
        go_wp2_with fail
        go_roundw
        case rel => exact ⟨k + 1, by omega, by go_num, hB1⟩
        case measure => simp only [intOf]; omega
      · have hkk : k = m0 := by omega
        have hl : E.li < 0 ∨ 65535 < E.li := by
          have := hHm.out.2
          rw [← hkk, hE] at this
          omega
        have hlm : Hid (m0 < m) := Lib.hid (by omega)
        clear hE hkk hk0
        go_wp2_with fail
        refine (isTime_no E.li _ hl).mono ?_
        rintro e w1 ⟨rfl, hw1⟩
        have hB1 : Hid (Below w.heap.size w w1) := Lib.hid (by rw [hw1]; exact hB0.out)
        clear hw1 c0 c1 c2 c3 c4 c5 c6 c7 c8 c9 c10
        go_wp2_with fail
        go_ret2
        exact .inl ⟨hlm.out, rfl, hB1.out⟩
    · obtain rfl : k = m := by omega
      obtain rfl : m0 = k := by omega
      by_cases h15 : 15 < m0
      · have h15' : (15 : Int) < (m0 : Int) := by omega
        go_wp2_with fail
        go_ret2
        exact .inr (.inl ⟨rfl, h15, rfl, HW.out⟩)
      · have h15' : (m0 : Int) ≤ 15 := by omega
        have HW0 := Lib.hid HW.out
        go_wp2_with fail
        go_loopw [6, 25] (fun p i wr2 => ∃ k : Nat, k ≤ m0 ∧ i = .int .i64 k ∧ Hid (OwnB wr2 w.heap.size p (16 * k) (enZ L)) ∧ Hid (Below w.heap.size w wr2))
          (fun _ i _ => m0 - (intOf i).toNat)
        case atStart => exact ⟨0, by omega, rfl, Lib.hid (OwnB.nil wr _ HB.out), HW0⟩
        case round =>
          clear HW HW0
          obtain ⟨k, hk, rfl, HO, HW⟩ := hrel
          by_cases hkm : k < m0
          · obtain ⟨b, off, rfl, hr⟩ := (HR.out.below HW.out rfl).row (by omega)
            obtain ⟨⟨c0, c1, c2, c3⟩, ⟨c4, c5, c6, c7⟩, c8, c9, c10⟩ := enC_cells (hr.2 k hkm)
            clear hr
            have hki : (k : Int) < (m0 : Int) := by omega
            have hOk := HOK.out k
            have hl := HM.out.2.1 k hkm
            have hn0 := Lib.hid (enZ_push L k)
            obtain ⟨E, hE⟩ : ∃ E, L k = E := ⟨_, rfl⟩
            have HE := Lib.hid hE
            rw [hE] at c0 c1 c2 c3 c4 c5 c6 c7 c8 c9 c10 hOk hl hn0
            have HES := Lib.hid hOk.1
            have hsq := hOk.2.1
            have hsu := hOk.2.2.2
            obtain ⟨N, hN⟩ : ∃ N : Nat, E.li = (N : Int) := ⟨E.li.toNat, by omega⟩
            rw [hN] at c9 hn0 hl
            rw [Int.toNat_natCast] at hn0
            have HN := Lib.hid hN
            have hN2 : N ≤ 65535 := by omega
            clear hE hN hl hOk
            obtain ⟨wo, rfl⟩ : ∃ wo : World, wo = wr := ⟨_, rfl⟩
            have hbw0 := (bself wo).alloc (Nat.le_refl _) (.cells (enC E) 96)
            have hwr : w.heap.size ≤ wo.heap.size := HW.out.size
            have hX0 := heap_alloc_new wo (.cells (enC E) 96)
            have hO0 := ownsRow_below' HO.out.1 hbw0
            have hW0 := HW.out.trans (hbw0.mono hwr)
            have hf0 : u6.ownBlock ≠ some wo.heap.size := (fun e => by have := (HO.out.1.lt _ e).2; omega)
            have hX0' : (wo.alloc (.cells #[.int .u8 (E.s 0), .int .u8 (E.s 1), .int .u8 (E.s 2), .int .u8 (E.s 3), .int .u8 (E.s 4), .int .u8 (E.s 5), .int .u8 (E.s 6), .int .u8 (E.s 7), .int .u32 (E.sq : Int), .int .i64 (N : Int), .int .u16 (E.su : Int)] 96)) = wo.alloc (.cells (enC E) 96) := by unfold enC; rw [HN.out]
            have hsz0 : (wo.alloc (.cells (enC E) 96)).heap.size = wo.heap.size + 1 := by simp
            obtain ⟨W0, hWW⟩ : ∃ W0, wo.alloc (.cells (enC E) 96) = W0 := ⟨_, rfl⟩
            rw [hWW] at hX0 hO0 hW0 hX0' hsz0
            have HX0 := Lib.hid hX0
            have HO0 := Lib.hid hO0
            have HW0 := Lib.hid hW0
            have HF0 := Lib.hid hf0
            have HWW := Lib.hid hX0'
            clear hX0 hO0 hW0 hf0 hX0' hbw0 hWW
            go_wp2_with fail
            rw [HWW.out]
            refine wp_region_held_drew (S := fun w' => w'.heap[wo.heap.size]? = some (.cells (enC E) 96 (0, 0))) (by kernel_rfl) HX0.out (fun hS0 => ?_)
            refine takeY (i := 0) (some 29) (v := u6) rfl rfl (by kernel_rfl) (by kernel_rfl) (by kernel_rfl) (fun _ _ _ h => h) (by rfl) (fun w' hS => by go_simp) hS0 ?_
            simp only [Act.put, List.setIfInBounds_toArray, List.set_cons_zero, List.set_cons_succ]
            refine takeY (i := 1) (some 30) (v := .pointer (some ⟨wo.heap.size, 9, none⟩)) rfl rfl (by kernel_rfl) (by kernel_rfl) (by kernel_rfl) (fun _ _ _ h => h) (by rfl) (fun w' hS => by go_simp) hS0 ?_
            simp only [Act.put, List.setIfInBounds_toArray, List.set_cons_zero, List.set_cons_succ]
            refine takeY (i := 2) (some 31) (v := .int .i64 (N : Int)) rfl rfl (by kernel_rfl) (by kernel_rfl) (by kernel_rfl) (fun _ _ _ h => h) (by rfl) (fun w' hS => by have cx : w'.cell? ⟨wo.heap.size, 9, none⟩ = some (.int .i64 (N : Int)) := (cell_of_row w' _ 9 _ _ _ hS).trans (by show some (Value.int .i64 E.li) = _; rw [HN.out]); clear hS; go_simp) hS0 ?_
            simp only [Act.put, List.setIfInBounds_toArray, List.set_cons_zero, List.set_cons_succ]
            refine takeY (i := 3) (some 32) (v := .int .u64 (N : Int)) rfl rfl (by kernel_rfl) (by kernel_rfl) (by kernel_rfl) (fun _ _ _ h => h) (by rfl) (fun w' hS => by first | (go_simp; done) | (go_simp; exact wrapU _ (by omega))) hS0 ?_
            simp only [Act.put, List.setIfInBounds_toArray, List.set_cons_zero, List.set_cons_succ]
            refine takeC (i := 4) (some 33) 52 #[.int .i64 8] (.int .i64 2) (R := fun w' => w' = (W0).drew) rfl rfl (by kernel_rfl) (by rfl) (by go_simp) (size_2 8 _ (by decide)) (fun w' h => by rw [h]; exact HX0.out) (fun w1 hw1 hS1 => ?_)
            simp only [Act.put, List.setIfInBounds_toArray, List.set_cons_zero, List.set_cons_succ]
            subst hw1
            refine takeCE (i := 5) (some 34) 51 #[.int .u64 (N : Int), .int .i64 2] (R := fun v w' => ∃ g, v = .slice (some ⟨g, 0, none⟩) 2 2 ∧ (W0).heap.size ≤ g ∧ Own8 w' g 2 2 (putZ N 2) ∧ Below (W0).heap.size (W0) w') rfl rfl (by kernel_rfl) (by rfl) (by go_simp) ((putNumber_any (N) 2 _ (by decide) (by decide) (by omega) (qN_fit _ _ (by show _ < 65536; omega))).mono fun e w' h => by obtain ⟨g, h1, h2, h3, h4⟩ := h; exact ⟨_, h1, g, rfl, h2, h3, (bself (W0)).drew.trans h4⟩) (fun v w' h => by obtain ⟨g, _, _, _, h4⟩ := h; exact (h4.block _ (by omega)).trans HX0.out) (fun v w1 h1 hS1 => ?_)
            simp only [Act.put, List.setIfInBounds_toArray, List.set_cons_zero, List.set_cons_succ]
            obtain ⟨g, rfl, hg, hog, hb1⟩ := h1
            have hw1 := hb1.size
            have HGn := Lib.hid hog
            have HO1 := Lib.hid (ownsRow_below' HO0.out hb1)
            have HB1 := Lib.hid (HW0.out.trans (hb1.mono HW0.out.size))
            have HN1 := Lib.hid hS1
            have HL1 : Hid (wo.heap.size < w1.heap.size) := Lib.hid (by omega)
            clear hog hb1 hS1 hS0
            refine takeA (i := 6) (some 35) (.tmp 29) (.tmp 34) rfl rfl (by kernel_rfl) (by rfl) rfl w u6 (16 * k) (vals (enZ L) (16 * k)) rfl HO1.out HB1.out ⟨g, 0, none⟩ 2 2 (vals (putZ N 2) 2) rfl (vals_len _ _) (rd_newsB HGn.out.rd) (vals_one _ _) (by omega) (fun v3 w3 ho3 hb3 hs3 hk3 => ⟨(hk3 wo.heap.size HL1.out HF0.out).1.trans HN1.out, ?_⟩)
            simp only [Act.put, List.setIfInBounds_toArray, List.set_cons_zero, List.set_cons_succ]
            have hS3 : w3.heap[wo.heap.size]? = some (.cells (enC E) 96 (0, 0)) := (hk3 wo.heap.size HL1.out HF0.out).1.trans HN1.out
            have HX3 := Lib.hid hS3
            have HF3 := Lib.hid (hk3 wo.heap.size HL1.out HF0.out).2
            have HO3 := Lib.hid ho3
            have HB3 := Lib.hid hb3
            have HL3 : Hid (wo.heap.size < w3.heap.size) := Lib.hid (by have := HL1.out; omega)
            clear ho3 hb3 hs3 hk3 HO1 HB1 HN1 HL1 HGn hg hw1 HX0 HF0 HO0 HW0 hsz0
            refine takeY (i := 7) (some 6) (v := v3) rfl rfl (by kernel_rfl) (by kernel_rfl) (by kernel_rfl) (fun _ _ _ h => h) (by rfl) (fun w' hS => by go_simp) hS3 ?_
            simp only [Act.put, List.setIfInBounds_toArray, List.set_cons_zero, List.set_cons_succ]
            refine wpAnyH_done (by kernel_rfl) ?_ _
            have d0 : w3.cell? ⟨wo.heap.size, 0, none⟩ = some (.int .u8 (E.s 0)) := (cell_of_row w3 _ 0 _ _ _ HX3.out).trans rfl
            have d1 : w3.cell? ⟨wo.heap.size, 1, none⟩ = some (.int .u8 (E.s 1)) := (cell_of_row w3 _ 1 _ _ _ HX3.out).trans rfl
            have d2 : w3.cell? ⟨wo.heap.size, 2, none⟩ = some (.int .u8 (E.s 2)) := (cell_of_row w3 _ 2 _ _ _ HX3.out).trans rfl
            have d3 : w3.cell? ⟨wo.heap.size, 3, none⟩ = some (.int .u8 (E.s 3)) := (cell_of_row w3 _ 3 _ _ _ HX3.out).trans rfl
            have d4 : w3.cell? ⟨wo.heap.size, 4, none⟩ = some (.int .u8 (E.s 4)) := (cell_of_row w3 _ 4 _ _ _ HX3.out).trans rfl
            have d5 : w3.cell? ⟨wo.heap.size, 5, none⟩ = some (.int .u8 (E.s 5)) := (cell_of_row w3 _ 5 _ _ _ HX3.out).trans rfl
            have d6 : w3.cell? ⟨wo.heap.size, 6, none⟩ = some (.int .u8 (E.s 6)) := (cell_of_row w3 _ 6 _ _ _ HX3.out).trans rfl
            have d7 : w3.cell? ⟨wo.heap.size, 7, none⟩ = some (.int .u8 (E.s 7)) := (cell_of_row w3 _ 7 _ _ _ HX3.out).trans rfl
            clear c0 c1 c2 c3 c4 c5 c6 c7 c8 c9 c10
            go_wp2_with fail
            clear d0 d1 d2 d3 d4 d5 d6 d7
            refine (putID_any E.s _ HES.out).mono ?_
            rintro e w4 ⟨v4, rfl, ho4, hb4⟩
            obtain ⟨g4, cap4, rfl, hg4, hog4⟩ := own_ofB ho4 (by omega)
            have HG4 := Lib.hid hog4
            have HO4 := Lib.hid (ownsRow_below' HO3.out hb4)
            have HB4 := Lib.hid (HB3.out.trans (hb4.mono HB3.out.size))
            have hX4 := Lib.hid ((hb4.block _ HL3.out).trans HX3.out)
            have hL4 := Lib.hid (show wo.heap.size < w4.heap.size by have := hb4.size; have := HL3.out; omega)
            clear ho4 hb4 hog4
            go_wp2_with (first
              | (at_builtin; refine app_s rfl (.tmp 36) (.tmp 39) rfl w v3 (16 * k + 2) _ rfl HO4.out HB4.out ⟨g4, 0, none⟩ 8 cap4 _ rfl (vals_len _ _) (rd_newsB HG4.out.rd) (vals_one _ _) (by omega) ?_; intro v5 w5 ho5 hb5 hs5 hk5))
            have HX0 := Lib.hid ((hk5 wo.heap.size hL4.out HF3.out).1.trans hX4.out)
            have HF0 := Lib.hid (hk5 wo.heap.size hL4.out HF3.out).2
            have HO0 := Lib.hid ho5
            have HW0 := Lib.hid hb5
            have hsz0 : wo.heap.size < w5.heap.size := by have := hL4.out; omega
            clear ho5 hb5 hs5 hk5 HO4 HB4 hX4 hL4 HG4 HO3 HB3 HX3 HF3 HL3
            refine wp_region_held_drew (S := fun w' => w'.heap[wo.heap.size]? = some (.cells (enC E) 96 (0, 0))) (by kernel_rfl) HX0.out (fun hS0 => ?_)
            refine takeY (i := 0) (some 41) (v := v5) rfl rfl (by kernel_rfl) (by kernel_rfl) (by kernel_rfl) (fun _ _ _ h => h) (by rfl) (fun w' hS => by go_simp) hS0 ?_
            simp only [Act.put, List.setIfInBounds_toArray, List.set_cons_zero, List.set_cons_succ]
            refine takeY (i := 1) (some 42) (v := .pointer (some ⟨wo.heap.size, 8, none⟩)) rfl rfl (by kernel_rfl) (by kernel_rfl) (by kernel_rfl) (fun _ _ _ h => h) (by rfl) (fun w' hS => by go_simp) hS0 ?_
            simp only [Act.put, List.setIfInBounds_toArray, List.set_cons_zero, List.set_cons_succ]
            refine takeY (i := 2) (some 43) (v := .int .u32 (E.sq : Int)) rfl rfl (by kernel_rfl) (by kernel_rfl) (by kernel_rfl) (fun _ _ _ h => h) (by rfl) (fun w' hS => by have cx : w'.cell? ⟨wo.heap.size, 8, none⟩ = some (.int .u32 (E.sq : Int)) := (cell_of_row w' _ 8 _ _ _ hS).trans rfl; clear hS; go_simp) hS0 ?_
            simp only [Act.put, List.setIfInBounds_toArray, List.set_cons_zero, List.set_cons_succ]
            refine takeY (i := 3) (some 44) (v := .int .u64 (E.sq : Int)) rfl rfl (by kernel_rfl) (by kernel_rfl) (by kernel_rfl) (fun _ _ _ h => h) (by rfl) (fun w' hS => by first | (go_simp; done) | (go_simp; exact wrapU _ (by omega))) hS0 ?_
            simp only [Act.put, List.setIfInBounds_toArray, List.set_cons_zero, List.set_cons_succ]
            refine takeC (i := 4) (some 45) 52 #[.int .i64 10] (.int .i64 4) (R := fun w' => w' = (w5).drew) rfl rfl (by kernel_rfl) (by rfl) (by go_simp) (size_4 _ ) (fun w' h => by rw [h]; exact HX0.out) (fun w1 hw1 hS1 => ?_)
            simp only [Act.put, List.setIfInBounds_toArray, List.set_cons_zero, List.set_cons_succ]
            subst hw1
            refine takeCE (i := 5) (some 46) 51 #[.int .u64 (E.sq : Int), .int .i64 4] (R := fun v w' => ∃ g, v = .slice (some ⟨g, 0, none⟩) 4 4 ∧ (w5).heap.size ≤ g ∧ Own8 w' g 4 4 (putZ E.sq 4) ∧ Below (w5).heap.size (w5) w') rfl rfl (by kernel_rfl) (by rfl) (by go_simp) ((putNumber_any (E.sq) 4 _ (by decide) (by decide) (by omega) (qN_fit _ _ (by show _ < 4294967296; omega))).mono fun e w' h => by obtain ⟨g, h1, h2, h3, h4⟩ := h; exact ⟨_, h1, g, rfl, h2, h3, (bself (w5)).drew.trans h4⟩) (fun v w' h => by obtain ⟨g, _, _, _, h4⟩ := h; exact (h4.block _ (by omega)).trans HX0.out) (fun v w1 h1 hS1 => ?_)
            simp only [Act.put, List.setIfInBounds_toArray, List.set_cons_zero, List.set_cons_succ]
            obtain ⟨g, rfl, hg, hog, hb1⟩ := h1
            have hw1 := hb1.size
            have HGn := Lib.hid hog
            have HO1 := Lib.hid (ownsRow_below' HO0.out hb1)
            have HB1 := Lib.hid (HW0.out.trans (hb1.mono HW0.out.size))
            have HN1 := Lib.hid hS1
            have HL1 : Hid (wo.heap.size < w1.heap.size) := Lib.hid (by omega)
            clear hog hb1 hS1 hS0
            refine takeA (i := 6) (some 47) (.tmp 41) (.tmp 46) rfl rfl (by kernel_rfl) (by rfl) rfl w v5 (16 * k + 2 + 8) (_) rfl HO1.out HB1.out ⟨g, 0, none⟩ 4 4 (vals (putZ E.sq 4) 4) rfl (vals_len _ _) (rd_newsB HGn.out.rd) (vals_one _ _) (by omega) (fun v6 w6 ho3 hb3 hs3 hk3 => ⟨(hk3 wo.heap.size HL1.out HF0.out).1.trans HN1.out, ?_⟩)
            simp only [Act.put, List.setIfInBounds_toArray, List.set_cons_zero, List.set_cons_succ]
            have hS3 : w6.heap[wo.heap.size]? = some (.cells (enC E) 96 (0, 0)) := (hk3 wo.heap.size HL1.out HF0.out).1.trans HN1.out
            have HX3 := Lib.hid hS3
            have HF3 := Lib.hid (hk3 wo.heap.size HL1.out HF0.out).2
            have HO3 := Lib.hid ho3
            have HB3 := Lib.hid hb3
            have HL3 : Hid (wo.heap.size < w6.heap.size) := Lib.hid (by have := HL1.out; omega)
            clear ho3 hb3 hs3 hk3 HO1 HB1 HN1 HL1 HGn hg hw1 HX0 HF0 HO0 HW0 hsz0
            refine takeY (i := 7) (some 6) (v := v6) rfl rfl (by kernel_rfl) (by kernel_rfl) (by kernel_rfl) (fun _ _ _ h => h) (by rfl) (fun w' hS => by go_simp) hS3 ?_
            simp only [Act.put, List.setIfInBounds_toArray, List.set_cons_zero, List.set_cons_succ]
            refine wpAnyH_done (by kernel_rfl) ?_ _
            have HX0 := HX3
            have HF0 := HF3
            have HO0 := HO3
            have HW0 := HB3
            have hsz0 := HL3.out
            clear HO3 HB3 HX3 HF3 HL3
            go_wp2_with fail
            refine wp_region_held_drew (S := fun w' => w'.heap[wo.heap.size]? = some (.cells (enC E) 96 (0, 0))) (by kernel_rfl) HX0.out (fun hS0 => ?_)
            refine takeY (i := 0) (some 48) (v := v6) rfl rfl (by kernel_rfl) (by kernel_rfl) (by kernel_rfl) (fun _ _ _ h => h) (by rfl) (fun w' hS => by go_simp) hS0 ?_
            simp only [Act.put, List.setIfInBounds_toArray, List.set_cons_zero, List.set_cons_succ]
            refine takeY (i := 1) (some 49) (v := .pointer (some ⟨wo.heap.size, 10, none⟩)) rfl rfl (by kernel_rfl) (by kernel_rfl) (by kernel_rfl) (fun _ _ _ h => h) (by rfl) (fun w' hS => by go_simp) hS0 ?_
            simp only [Act.put, List.setIfInBounds_toArray, List.set_cons_zero, List.set_cons_succ]
            refine takeY (i := 2) (some 50) (v := .int .u16 (E.su : Int)) rfl rfl (by kernel_rfl) (by kernel_rfl) (by kernel_rfl) (fun _ _ _ h => h) (by rfl) (fun w' hS => by have cx : w'.cell? ⟨wo.heap.size, 10, none⟩ = some (.int .u16 (E.su : Int)) := (cell_of_row w' _ 10 _ _ _ hS).trans rfl; clear hS; go_simp) hS0 ?_
            simp only [Act.put, List.setIfInBounds_toArray, List.set_cons_zero, List.set_cons_succ]
            refine takeY (i := 3) (some 51) (v := .int .u64 (E.su : Int)) rfl rfl (by kernel_rfl) (by kernel_rfl) (by kernel_rfl) (fun _ _ _ h => h) (by rfl) (fun w' hS => by first | (go_simp; done) | (go_simp; exact wrapU _ (by omega))) hS0 ?_
            simp only [Act.put, List.setIfInBounds_toArray, List.set_cons_zero, List.set_cons_succ]
            refine takeC (i := 4) (some 52) 52 #[.int .i64 11] (.int .i64 2) (R := fun w' => w' = (w6).drew) rfl rfl (by kernel_rfl) (by rfl) (by go_simp) (size_2 11 _ (by decide)) (fun w' h => by rw [h]; exact HX0.out) (fun w1 hw1 hS1 => ?_)
            simp only [Act.put, List.setIfInBounds_toArray, List.set_cons_zero, List.set_cons_succ]
            subst hw1
            refine takeCE (i := 5) (some 53) 51 #[.int .u64 (E.su : Int), .int .i64 2] (R := fun v w' => ∃ g, v = .slice (some ⟨g, 0, none⟩) 2 2 ∧ (w6).heap.size ≤ g ∧ Own8 w' g 2 2 (putZ E.su 2) ∧ Below (w6).heap.size (w6) w') rfl rfl (by kernel_rfl) (by rfl) (by go_simp) ((putNumber_any (E.su) 2 _ (by decide) (by decide) (by omega) (qN_fit _ _ (by show _ < 65536; omega))).mono fun e w' h => by obtain ⟨g, h1, h2, h3, h4⟩ := h; exact ⟨_, h1, g, rfl, h2, h3, (bself (w6)).drew.trans h4⟩) (fun v w' h => by obtain ⟨g, _, _, _, h4⟩ := h; exact (h4.block _ (by omega)).trans HX0.out) (fun v w1 h1 hS1 => ?_)
            simp only [Act.put, List.setIfInBounds_toArray, List.set_cons_zero, List.set_cons_succ]
            obtain ⟨g, rfl, hg, hog, hb1⟩ := h1
            have hw1 := hb1.size
            have HGn := Lib.hid hog
            have HO1 := Lib.hid (ownsRow_below' HO0.out hb1)
            have HB1 := Lib.hid (HW0.out.trans (hb1.mono HW0.out.size))
            have HN1 := Lib.hid hS1
            have HL1 : Hid (wo.heap.size < w1.heap.size) := Lib.hid (by omega)
            clear hog hb1 hS1 hS0
            refine takeA (i := 6) (some 54) (.tmp 48) (.tmp 53) rfl rfl (by kernel_rfl) (by rfl) rfl w v6 (16 * k + 2 + 8 + 4) (_) rfl HO1.out HB1.out ⟨g, 0, none⟩ 2 2 (vals (putZ E.su 2) 2) rfl (vals_len _ _) (rd_newsB HGn.out.rd) (vals_one _ _) (by omega) (fun v9 w9 ho3 hb3 hs3 hk3 => ⟨(hk3 wo.heap.size HL1.out HF0.out).1.trans HN1.out, ?_⟩)
            simp only [Act.put, List.setIfInBounds_toArray, List.set_cons_zero, List.set_cons_succ]
            have hS3 : w9.heap[wo.heap.size]? = some (.cells (enC E) 96 (0, 0)) := (hk3 wo.heap.size HL1.out HF0.out).1.trans HN1.out
            have HX3 := Lib.hid hS3
            have HF3 := Lib.hid (hk3 wo.heap.size HL1.out HF0.out).2
            have HO3 := Lib.hid ho3
            have HB3 := Lib.hid hb3
            have HL3 : Hid (wo.heap.size < w9.heap.size) := Lib.hid (by have := HL1.out; omega)
            clear ho3 hb3 hs3 hk3 HO1 HB1 HN1 HL1 HGn hg hw1 HX0 HF0 HO0 HW0 hsz0
            refine takeY (i := 7) (some 6) (v := v9) rfl rfl (by kernel_rfl) (by kernel_rfl) (by kernel_rfl) (fun _ _ _ h => h) (by rfl) (fun w' hS => by go_simp) hS3 ?_
            simp only [Act.put, List.setIfInBounds_toArray, List.set_cons_zero, List.set_cons_succ]
            refine wpAnyH_done (by kernel_rfl) ?_ _
            have HOF : Hid (OwnB w9 w.heap.size v9 (16 * (k + 1)) (enZ L)) := Lib.hid (by
              have h := HO3.out
              rw [hn0.out] at h
              exact ⟨h, HB.out⟩)
            go_wp2_with fail
            go_roundw
            case rel => first | exact ⟨k + 1, by omega, by go_num, HOF, HB3⟩ | exact ⟨_, _, _, ⟨k + 1, by omega, by go_num, HOF, HB3⟩, rfl, rfl, rfl⟩ | ((repeat apply Exists.intro); exact ⟨⟨k + 1, by omega, by go_num, HOF, HB3⟩, rfl⟩)
            case measure => simp only [intOf]; omega
          · obtain rfl : k = m0 := by omega
            go_wp2_with fail
            go_ret2
            exact .inr (.inr ⟨rfl, by omega, _, rfl, HO.out, HW.out⟩)
end Go.Proofs.Ytigkmcbkckfhbaa
