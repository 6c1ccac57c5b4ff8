/- The walk of PrefixForms, over a contract of awake. -/
import Derived.Test.YtnllhedmkjmaiaaDoorPAwake
namespace Go.Proofs.YtnllhedmkjmaiaaDoor
open Go.RowKit
set_option linter.unusedVariables false

set_option maxHeartbeats 400000 in
set_option maxRecDepth 100000 in
theorem walkPrefixForms (fam len : Int) (z : Nat → Int) (hf : 0 ≤ fam ∧ fam ≤ 255) (hl : -9223372036854775808 ≤ len ∧ len ≤ 9223372036854775807) (hz : Bytes z) (n : Int) (hn : (Lit.int .i64 n).wf = true) (w : World)
    (m : Int) (hL : Lays w m) :
    Calls Tryd.prog 3 #[.agg (pvC fam len z), .int .i64 n] w fun e w' => e = .returned (.bool true) ∧ Below w.heap.size w w' := by
  obtain ⟨f, l, y, e, hy, hc, hd⟩ := cut_one fam len n z hz
  have HC := Lib.hid hc
  have HD := Lib.hid hd
  have HA := Lib.hid hL
  clear hc hd hL
  have HN := Lib.hid (IsPv.new w fam len z)
  have hB := Lib.hid ((bself w).alloc (Nat.le_refl _) (.cells (pvC fam len z) 24))
  go_enter Tryd.func3, Tryd.ntmps3
  go_wp2_with (refine load_pv rfl (.tmp 2) rfl rfl HN.out ?_)
  refine (HC.out _).mono ?_
  rintro e1 w1 ⟨rfl, hb1⟩
  have HN1 := Lib.hid (HN.out.below hb1 HN.out.lt)
  have HB1 := Lib.hid (hB.out.trans (hb1.mono hB.out.size))
  clear hb1
  have HX := Lib.hid (IsPv.new w1 0 0 Z0)
  have hall := Lib.hid (all_pv f l y)
  go_wp2_with (first | (refine store_blk rfl (.tmp 5) (.tmp 13) (cells := pvC f l y) rfl rfl rfl HX.out info_pv rfl hall.out ?_; intro w2 hg2 hb2 ho2; refine Hid.out ?_))
  refine Lib.hid ?_
  have hlt := HN1.out.lt
  have HW1 := Lib.hid ((bself w1).alloc (Nat.le_refl _) (.cells (pvC 0 0 Z0) 24))
  have HW2 := Lib.hid (HW1.out.trans (hb2 w1.heap.size (Nat.le_refl _)))
  have HN2 := Lib.hid (HN1.out.below HW2.out hlt)
  have HB2 := Lib.hid (HB1.out.trans (HW2.out.mono HB1.out.size))
  have HQ2 := Lib.hid (show IsPv w2 w1.heap.size f l y from hg2)
  have HS := Lib.hid (show w.heap.size ≤ w1.heap.size ∧ w.heap.size ≤ w2.heap.size from ⟨HB1.out.size, HB2.out.size⟩)
  clear hg2 hb2 ho2 hlt
  go_wp2_with (refine load_pv rfl (.tmp 2) rfl rfl HN2.out ?_)
  refine (HD.out _).mono ?_
  rintro e3 w3 ⟨rfl, hb3⟩
  have HN3 := Lib.hid (HN2.out.below hb3 HN2.out.lt)
  have HQ3 := Lib.hid (HQ2.out.below hb3 HQ2.out.lt)
  have HB3 := Lib.hid (HB2.out.trans (hb3.mono HB2.out.size))
  clear hb3
  have HY := Lib.hid (IsPv.new w3 0 0 Z0)
  go_wp2_with (first | (refine store_blk rfl (.tmp 7) (.tmp 19) (cells := pvC f l y) rfl rfl rfl HY.out info_pv rfl hall.out ?_; intro w4 hg4 hb4 ho4; refine Hid.out ?_))
  refine Lib.hid ?_
  have HW3 := Lib.hid ((bself w3).alloc (Nat.le_refl _) (.cells (pvC 0 0 Z0) 24))
  have HW4 := Lib.hid (HW3.out.trans (hb4 w3.heap.size (Nat.le_refl _)))
  have HN4 := Lib.hid (HN3.out.below HW4.out HN3.out.lt)
  have HQ4 := Lib.hid (HQ3.out.below HW4.out HQ3.out.lt)
  have HB4 := Lib.hid (HB3.out.trans (HW4.out.mono HB3.out.size))
  have HR4 := Lib.hid (show IsPv w4 w3.heap.size f l y from hg4)
  clear hg4 hb4 ho4
  by_cases hF : Form fam len z
  · have HK := Lib.hid (fun W => check_any fam len z W hz)
    rw [show checkI fam len z = 0 by unfold checkI; rw [if_pos hF]] at HK
    have HF := Lib.hid (fun W => form_any fam len z W hz)
    rw [show decide (Form fam len z) = true by simpa using hF] at HF
    clear hF
    go_wp2_with fail
    refine wp_region_held_drew (S := fun w' => Hid (IsPv w' w.heap.size fam len z ∧ IsPv w' w1.heap.size f l y ∧ IsPv w' w3.heap.size f l y ∧ Below w.heap.size w w')) (by kernel_rfl) ?_ (fun hHeld => ?_)
    · exact Lib.hid ⟨show IsPv _ _ _ _ _ from HN4.out, show IsPv _ _ _ _ _ from HQ4.out, show IsPv _ _ _ _ _ from HR4.out, HB4.out.drew⟩
    refine takeC (i := 0) (some 21) 12 #[] (.bool true) rfl rfl (by kernel_rfl) (by rfl) (by go_simp) (awake_any m _ (HA.out.below hHeld.out.2.2.2)) (fun w1 hb1 => Lib.hid ⟨hHeld.out.1.below hb1 hHeld.out.1.lt, hHeld.out.2.1.below hb1 hHeld.out.2.1.lt, hHeld.out.2.2.1.below hb1 hHeld.out.2.2.1.lt, hHeld.out.2.2.2.trans (hb1.mono hHeld.out.2.2.2.size)⟩) (fun w5 hb5 hH5 => ?_)
    simp only [Act.put, List.setIfInBounds_toArray, List.set_cons_zero, List.set_cons_succ]
    refine takeY (i := 1) (some 22) (v := (.bool true)) rfl rfl (by kernel_rfl) (by kernel_rfl) (by kernel_rfl) (fun _ _ _ h => h) (by rfl) (fun w' hS => by go_simp) (by assumption) ?_
    simp only [Act.put, List.setIfInBounds_toArray, List.set_cons_zero, List.set_cons_succ]
    refine takeL (i := 2) (some 23) 24 (.tmp 5) w1.heap.size 0 (pvC f l y) _ rfl rfl (by kernel_rfl) (by kernel_rfl) (by kernel_rfl) (fun _ _ _ h => h) (by rfl) rfl rfl (fun w' h => h.out.2.1.range) Tryd.underlying24 rfl (hi_pv f l y) (by assumption) ?_
    simp only [Act.put, List.setIfInBounds_toArray, List.set_cons_zero, List.set_cons_succ]
    refine takeL (i := 3) (some 24) 24 (.tmp 7) w3.heap.size 0 (pvC f l y) _ rfl rfl (by kernel_rfl) (by kernel_rfl) (by kernel_rfl) (fun _ _ _ h => h) (by rfl) rfl rfl (fun w' h => h.out.2.2.1.range) Tryd.underlying24 rfl (hi_pv f l y) (by assumption) ?_
    simp only [Act.put, List.setIfInBounds_toArray, List.set_cons_zero, List.set_cons_succ]
    refine takeY (i := 4) (some 25) (v := (.bool true)) rfl rfl (by kernel_rfl) (by kernel_rfl) (by kernel_rfl) (fun _ _ _ h => h) (by rfl) (fun w' hS => by exact eql_same _ _ _ _ rfl f l y hy rfl rfl _) (by assumption) ?_
    simp only [Act.put, List.setIfInBounds_toArray, List.set_cons_zero, List.set_cons_succ]
    refine takeY (i := 5) (some 26) (v := (.bool true)) rfl rfl (by kernel_rfl) (by kernel_rfl) (by kernel_rfl) (fun _ _ _ h => h) (by rfl) (fun w' hS => by go_simp) (by assumption) ?_
    simp only [Act.put, List.setIfInBounds_toArray, List.set_cons_zero, List.set_cons_succ]
    refine takeY (i := 6) (some 27) (v := (.bool true)) rfl rfl (by kernel_rfl) (by kernel_rfl) (by kernel_rfl) (fun _ _ _ h => h) (by rfl) (fun w' hS => by go_simp) (by assumption) ?_
    simp only [Act.put, List.setIfInBounds_toArray, List.set_cons_zero, List.set_cons_succ]
    refine takeY (i := 7) (some 28) (v := (.int .i64 e)) rfl rfl (by kernel_rfl) (by kernel_rfl) (by kernel_rfl) (fun _ _ _ h => h) (by rfl) (fun w' hS => by go_simp) (by assumption) ?_
    simp only [Act.put, List.setIfInBounds_toArray, List.set_cons_zero, List.set_cons_succ]
    refine takeY (i := 8) (some 29) (v := (.int .i64 e)) rfl rfl (by kernel_rfl) (by kernel_rfl) (by kernel_rfl) (fun _ _ _ h => h) (by rfl) (fun w' hS => by go_simp) (by assumption) ?_
    simp only [Act.put, List.setIfInBounds_toArray, List.set_cons_zero, List.set_cons_succ]
    refine takeY (i := 9) (some 30) (v := (.bool true)) rfl rfl (by kernel_rfl) (by kernel_rfl) (by kernel_rfl) (fun _ _ _ h => h) (by rfl) (fun w' hS => by go_simp) (by assumption) ?_
    simp only [Act.put, List.setIfInBounds_toArray, List.set_cons_zero, List.set_cons_succ]
    refine takeY (i := 10) (some 31) (v := (.bool true)) rfl rfl (by kernel_rfl) (by kernel_rfl) (by kernel_rfl) (fun _ _ _ h => h) (by rfl) (fun w' hS => by go_simp) (by assumption) ?_
    simp only [Act.put, List.setIfInBounds_toArray, List.set_cons_zero, List.set_cons_succ]
    refine takeY (i := 11) (some 32) (v := (.bool true)) rfl rfl (by kernel_rfl) (by kernel_rfl) (by kernel_rfl) (fun _ _ _ h => h) (by rfl) (fun w' hS => by go_simp) (by assumption) ?_
    simp only [Act.put, List.setIfInBounds_toArray, List.set_cons_zero, List.set_cons_succ]
    refine takeL (i := 12) (some 33) 24 (.tmp 2) w.heap.size 0 (pvC fam len z) _ rfl rfl (by kernel_rfl) (by kernel_rfl) (by kernel_rfl) (fun _ _ _ h => h) (by rfl) rfl rfl (fun w' h => h.out.1.range) Tryd.underlying24 rfl (hi_pv fam len z) (by assumption) ?_
    simp only [Act.put, List.setIfInBounds_toArray, List.set_cons_zero, List.set_cons_succ]
    refine takeL (i := 15) (some 36) 24 (.tmp 2) w.heap.size 0 (pvC fam len z) _ rfl rfl (by kernel_rfl) (by kernel_rfl) (by kernel_rfl) (fun _ _ _ h => h) (by rfl) rfl rfl (fun w' h => h.out.1.range) Tryd.underlying24 rfl (hi_pv fam len z) (by assumption) ?_
    simp only [Act.put, List.setIfInBounds_toArray, List.set_cons_zero, List.set_cons_succ]
    refine takeC (i := 13) (some 34) 13 #[.agg (pvC fam len z)] (.int .i64 0) rfl rfl (by kernel_rfl) (by rfl) (by go_simp) (HK.out _) (fun w1 hb1 => Lib.hid ⟨hH5.out.1.below hb1 hH5.out.1.lt, hH5.out.2.1.below hb1 hH5.out.2.1.lt, hH5.out.2.2.1.below hb1 hH5.out.2.2.1.lt, hH5.out.2.2.2.trans (hb1.mono hH5.out.2.2.2.size)⟩) (fun w6 hb6 hH6 => ?_)
    simp only [Act.put, List.setIfInBounds_toArray, List.set_cons_zero, List.set_cons_succ]
    refine takeY (i := 14) (some 35) (v := (.bool true)) rfl rfl (by kernel_rfl) (by kernel_rfl) (by kernel_rfl) (fun _ _ _ h => h) (by rfl) (fun w' hS => by go_simp) (by assumption) ?_
    simp only [Act.put, List.setIfInBounds_toArray, List.set_cons_zero, List.set_cons_succ]
    refine takeC (i := 16) (some 37) 14 #[.agg (pvC fam len z)] (.bool true) rfl rfl (by kernel_rfl) (by rfl) (by go_simp) (HF.out _) (fun w1 hb1 => Lib.hid ⟨hH6.out.1.below hb1 hH6.out.1.lt, hH6.out.2.1.below hb1 hH6.out.2.1.lt, hH6.out.2.2.1.below hb1 hH6.out.2.2.1.lt, hH6.out.2.2.2.trans (hb1.mono hH6.out.2.2.2.size)⟩) (fun w7 hb7 hH7 => ?_)
    simp only [Act.put, List.setIfInBounds_toArray, List.set_cons_zero, List.set_cons_succ]
    refine takeY (i := 17) (some 38) (v := (.bool true)) rfl rfl (by kernel_rfl) (by kernel_rfl) (by kernel_rfl) (fun _ _ _ h => h) (by rfl) (fun w' hS => by go_simp) (by assumption) ?_
    simp only [Act.put, List.setIfInBounds_toArray, List.set_cons_zero, List.set_cons_succ]
    refine takeY (i := 18) (some 39) (v := (.bool true)) rfl rfl (by kernel_rfl) (by kernel_rfl) (by kernel_rfl) (fun _ _ _ h => h) (by rfl) (fun w' hS => by go_simp) (by assumption) ?_
    simp only [Act.put, List.setIfInBounds_toArray, List.set_cons_zero, List.set_cons_succ]
    refine takeY (i := 19) (some 40) (v := (.bool true)) rfl rfl (by kernel_rfl) (by kernel_rfl) (by kernel_rfl) (fun _ _ _ h => h) (by rfl) (fun w' hS => by go_simp) (by assumption) ?_
    simp only [Act.put, List.setIfInBounds_toArray, List.set_cons_zero, List.set_cons_succ]
    refine takeL (i := 20) (some 41) 24 (.tmp 2) w.heap.size 0 (pvC fam len z) _ rfl rfl (by kernel_rfl) (by kernel_rfl) (by kernel_rfl) (fun _ _ _ h => h) (by rfl) rfl rfl (fun w' h => h.out.1.range) Tryd.underlying24 rfl (hi_pv fam len z) (by assumption) ?_
    simp only [Act.put, List.setIfInBounds_toArray, List.set_cons_zero, List.set_cons_succ]
    refine takeC (i := 21) (some 42) 14 #[.agg (pvC fam len z)] (.bool true) rfl rfl (by kernel_rfl) (by rfl) (by go_simp) (HF.out _) (fun w1 hb1 => Lib.hid ⟨hH7.out.1.below hb1 hH7.out.1.lt, hH7.out.2.1.below hb1 hH7.out.2.1.lt, hH7.out.2.2.1.below hb1 hH7.out.2.2.1.lt, hH7.out.2.2.2.trans (hb1.mono hH7.out.2.2.2.size)⟩) (fun w8 hb8 hH8 => ?_)
    simp only [Act.put, List.setIfInBounds_toArray, List.set_cons_zero, List.set_cons_succ]
    refine takeY (i := 22) (some 43) (v := (.bool true)) rfl rfl (by kernel_rfl) (by kernel_rfl) (by kernel_rfl) (fun _ _ _ h => h) (by rfl) (fun w' hS => by go_simp) (by assumption) ?_
    simp only [Act.put, List.setIfInBounds_toArray, List.set_cons_zero, List.set_cons_succ]
    refine takeN (i := 23) (some 44) rfl rfl (by kernel_rfl) (by kernel_rfl) (by kernel_rfl) (fun _ _ _ h => h) (by rfl) (by assumption) ?_
    simp only [Act.put, List.setIfInBounds_toArray, List.set_cons_zero, List.set_cons_succ]
    refine takeN (i := 24) (some 45) rfl rfl (by kernel_rfl) (by kernel_rfl) (by kernel_rfl) (fun _ _ _ h => h) (by rfl) (by assumption) ?_
    simp only [Act.put, List.setIfInBounds_toArray, List.set_cons_zero, List.set_cons_succ]
    refine takeN (i := 25) (some 46) rfl rfl (by kernel_rfl) (by kernel_rfl) (by kernel_rfl) (fun _ _ _ h => h) (by rfl) (by assumption) ?_
    simp only [Act.put, List.setIfInBounds_toArray, List.set_cons_zero, List.set_cons_succ]
    refine takeY (i := 26) (some 47) (v := (.bool true)) rfl rfl (by kernel_rfl) (by kernel_rfl) (by kernel_rfl) (fun _ _ _ h => h) (by rfl) (fun w' hS => by go_simp) (by assumption) ?_
    simp only [Act.put, List.setIfInBounds_toArray, List.set_cons_zero, List.set_cons_succ]
    refine takeY (i := 27) (some 48) (v := (.bool true)) rfl rfl (by kernel_rfl) (by kernel_rfl) (by kernel_rfl) (fun _ _ _ h => h) (by rfl) (fun w' hS => by go_simp) (by assumption) ?_
    simp only [Act.put, List.setIfInBounds_toArray, List.set_cons_zero, List.set_cons_succ]
    refine takeY (i := 28) (some 4) (v := (.bool true)) rfl rfl (by kernel_rfl) (by kernel_rfl) (by kernel_rfl) (fun _ _ _ h => h) (by rfl) (fun w' hS => by go_simp) (by assumption) ?_
    simp only [Act.put, List.setIfInBounds_toArray, List.set_cons_zero, List.set_cons_succ]
    refine wpAnyH_done (by kernel_rfl) ?_ _
    go_wp2
    go_ret
    exact ⟨rfl, hH8.out.2.2.2⟩
  · have HK := Lib.hid (fun W => check_any fam len z W hz)
    rw [show checkI fam len z = 3 by unfold checkI; rw [if_neg hF]] at HK
    have HF := Lib.hid (fun W => form_any fam len z W hz)
    rw [show decide (Form fam len z) = false by simpa using hF] at HF
    clear hF
    go_wp2_with fail
    refine wp_region_held_drew (S := fun w' => Hid (IsPv w' w.heap.size fam len z ∧ IsPv w' w1.heap.size f l y ∧ IsPv w' w3.heap.size f l y ∧ Below w.heap.size w w')) (by kernel_rfl) ?_ (fun hHeld => ?_)
    · exact Lib.hid ⟨show IsPv _ _ _ _ _ from HN4.out, show IsPv _ _ _ _ _ from HQ4.out, show IsPv _ _ _ _ _ from HR4.out, HB4.out.drew⟩
    refine takeC (i := 0) (some 21) 12 #[] (.bool true) rfl rfl (by kernel_rfl) (by rfl) (by go_simp) (awake_any m _ (HA.out.below hHeld.out.2.2.2)) (fun w1 hb1 => Lib.hid ⟨hHeld.out.1.below hb1 hHeld.out.1.lt, hHeld.out.2.1.below hb1 hHeld.out.2.1.lt, hHeld.out.2.2.1.below hb1 hHeld.out.2.2.1.lt, hHeld.out.2.2.2.trans (hb1.mono hHeld.out.2.2.2.size)⟩) (fun w5 hb5 hH5 => ?_)
    simp only [Act.put, List.setIfInBounds_toArray, List.set_cons_zero, List.set_cons_succ]
    refine takeY (i := 1) (some 22) (v := (.bool true)) rfl rfl (by kernel_rfl) (by kernel_rfl) (by kernel_rfl) (fun _ _ _ h => h) (by rfl) (fun w' hS => by go_simp) (by assumption) ?_
    simp only [Act.put, List.setIfInBounds_toArray, List.set_cons_zero, List.set_cons_succ]
    refine takeL (i := 2) (some 23) 24 (.tmp 5) w1.heap.size 0 (pvC f l y) _ rfl rfl (by kernel_rfl) (by kernel_rfl) (by kernel_rfl) (fun _ _ _ h => h) (by rfl) rfl rfl (fun w' h => h.out.2.1.range) Tryd.underlying24 rfl (hi_pv f l y) (by assumption) ?_
    simp only [Act.put, List.setIfInBounds_toArray, List.set_cons_zero, List.set_cons_succ]
    refine takeL (i := 3) (some 24) 24 (.tmp 7) w3.heap.size 0 (pvC f l y) _ rfl rfl (by kernel_rfl) (by kernel_rfl) (by kernel_rfl) (fun _ _ _ h => h) (by rfl) rfl rfl (fun w' h => h.out.2.2.1.range) Tryd.underlying24 rfl (hi_pv f l y) (by assumption) ?_
    simp only [Act.put, List.setIfInBounds_toArray, List.set_cons_zero, List.set_cons_succ]
    refine takeY (i := 4) (some 25) (v := (.bool true)) rfl rfl (by kernel_rfl) (by kernel_rfl) (by kernel_rfl) (fun _ _ _ h => h) (by rfl) (fun w' hS => by exact eql_same _ _ _ _ rfl f l y hy rfl rfl _) (by assumption) ?_
    simp only [Act.put, List.setIfInBounds_toArray, List.set_cons_zero, List.set_cons_succ]
    refine takeY (i := 5) (some 26) (v := (.bool true)) rfl rfl (by kernel_rfl) (by kernel_rfl) (by kernel_rfl) (fun _ _ _ h => h) (by rfl) (fun w' hS => by go_simp) (by assumption) ?_
    simp only [Act.put, List.setIfInBounds_toArray, List.set_cons_zero, List.set_cons_succ]
    refine takeY (i := 6) (some 27) (v := (.bool true)) rfl rfl (by kernel_rfl) (by kernel_rfl) (by kernel_rfl) (fun _ _ _ h => h) (by rfl) (fun w' hS => by go_simp) (by assumption) ?_
    simp only [Act.put, List.setIfInBounds_toArray, List.set_cons_zero, List.set_cons_succ]
    refine takeY (i := 7) (some 28) (v := (.int .i64 e)) rfl rfl (by kernel_rfl) (by kernel_rfl) (by kernel_rfl) (fun _ _ _ h => h) (by rfl) (fun w' hS => by go_simp) (by assumption) ?_
    simp only [Act.put, List.setIfInBounds_toArray, List.set_cons_zero, List.set_cons_succ]
    refine takeY (i := 8) (some 29) (v := (.int .i64 e)) rfl rfl (by kernel_rfl) (by kernel_rfl) (by kernel_rfl) (fun _ _ _ h => h) (by rfl) (fun w' hS => by go_simp) (by assumption) ?_
    simp only [Act.put, List.setIfInBounds_toArray, List.set_cons_zero, List.set_cons_succ]
    refine takeY (i := 9) (some 30) (v := (.bool true)) rfl rfl (by kernel_rfl) (by kernel_rfl) (by kernel_rfl) (fun _ _ _ h => h) (by rfl) (fun w' hS => by go_simp) (by assumption) ?_
    simp only [Act.put, List.setIfInBounds_toArray, List.set_cons_zero, List.set_cons_succ]
    refine takeY (i := 10) (some 31) (v := (.bool true)) rfl rfl (by kernel_rfl) (by kernel_rfl) (by kernel_rfl) (fun _ _ _ h => h) (by rfl) (fun w' hS => by go_simp) (by assumption) ?_
    simp only [Act.put, List.setIfInBounds_toArray, List.set_cons_zero, List.set_cons_succ]
    refine takeY (i := 11) (some 32) (v := (.bool true)) rfl rfl (by kernel_rfl) (by kernel_rfl) (by kernel_rfl) (fun _ _ _ h => h) (by rfl) (fun w' hS => by go_simp) (by assumption) ?_
    simp only [Act.put, List.setIfInBounds_toArray, List.set_cons_zero, List.set_cons_succ]
    refine takeL (i := 12) (some 33) 24 (.tmp 2) w.heap.size 0 (pvC fam len z) _ rfl rfl (by kernel_rfl) (by kernel_rfl) (by kernel_rfl) (fun _ _ _ h => h) (by rfl) rfl rfl (fun w' h => h.out.1.range) Tryd.underlying24 rfl (hi_pv fam len z) (by assumption) ?_
    simp only [Act.put, List.setIfInBounds_toArray, List.set_cons_zero, List.set_cons_succ]
    refine takeL (i := 15) (some 36) 24 (.tmp 2) w.heap.size 0 (pvC fam len z) _ rfl rfl (by kernel_rfl) (by kernel_rfl) (by kernel_rfl) (fun _ _ _ h => h) (by rfl) rfl rfl (fun w' h => h.out.1.range) Tryd.underlying24 rfl (hi_pv fam len z) (by assumption) ?_
    simp only [Act.put, List.setIfInBounds_toArray, List.set_cons_zero, List.set_cons_succ]
    refine takeC (i := 13) (some 34) 13 #[.agg (pvC fam len z)] (.int .i64 3) rfl rfl (by kernel_rfl) (by rfl) (by go_simp) (HK.out _) (fun w1 hb1 => Lib.hid ⟨hH5.out.1.below hb1 hH5.out.1.lt, hH5.out.2.1.below hb1 hH5.out.2.1.lt, hH5.out.2.2.1.below hb1 hH5.out.2.2.1.lt, hH5.out.2.2.2.trans (hb1.mono hH5.out.2.2.2.size)⟩) (fun w6 hb6 hH6 => ?_)
    simp only [Act.put, List.setIfInBounds_toArray, List.set_cons_zero, List.set_cons_succ]
    refine takeY (i := 14) (some 35) (v := (.bool false)) rfl rfl (by kernel_rfl) (by kernel_rfl) (by kernel_rfl) (fun _ _ _ h => h) (by rfl) (fun w' hS => by go_simp) (by assumption) ?_
    simp only [Act.put, List.setIfInBounds_toArray, List.set_cons_zero, List.set_cons_succ]
    refine takeC (i := 16) (some 37) 14 #[.agg (pvC fam len z)] (.bool false) rfl rfl (by kernel_rfl) (by rfl) (by go_simp) (HF.out _) (fun w1 hb1 => Lib.hid ⟨hH6.out.1.below hb1 hH6.out.1.lt, hH6.out.2.1.below hb1 hH6.out.2.1.lt, hH6.out.2.2.1.below hb1 hH6.out.2.2.1.lt, hH6.out.2.2.2.trans (hb1.mono hH6.out.2.2.2.size)⟩) (fun w7 hb7 hH7 => ?_)
    simp only [Act.put, List.setIfInBounds_toArray, List.set_cons_zero, List.set_cons_succ]
    refine takeY (i := 17) (some 38) (v := (.bool true)) rfl rfl (by kernel_rfl) (by kernel_rfl) (by kernel_rfl) (fun _ _ _ h => h) (by rfl) (fun w' hS => by go_simp) (by assumption) ?_
    simp only [Act.put, List.setIfInBounds_toArray, List.set_cons_zero, List.set_cons_succ]
    refine takeY (i := 18) (some 39) (v := (.bool true)) rfl rfl (by kernel_rfl) (by kernel_rfl) (by kernel_rfl) (fun _ _ _ h => h) (by rfl) (fun w' hS => by go_simp) (by assumption) ?_
    simp only [Act.put, List.setIfInBounds_toArray, List.set_cons_zero, List.set_cons_succ]
    refine takeY (i := 19) (some 40) (v := (.bool true)) rfl rfl (by kernel_rfl) (by kernel_rfl) (by kernel_rfl) (fun _ _ _ h => h) (by rfl) (fun w' hS => by go_simp) (by assumption) ?_
    simp only [Act.put, List.setIfInBounds_toArray, List.set_cons_zero, List.set_cons_succ]
    refine takeL (i := 20) (some 41) 24 (.tmp 2) w.heap.size 0 (pvC fam len z) _ rfl rfl (by kernel_rfl) (by kernel_rfl) (by kernel_rfl) (fun _ _ _ h => h) (by rfl) rfl rfl (fun w' h => h.out.1.range) Tryd.underlying24 rfl (hi_pv fam len z) (by assumption) ?_
    simp only [Act.put, List.setIfInBounds_toArray, List.set_cons_zero, List.set_cons_succ]
    refine takeC (i := 21) (some 42) 14 #[.agg (pvC fam len z)] (.bool false) rfl rfl (by kernel_rfl) (by rfl) (by go_simp) (HF.out _) (fun w1 hb1 => Lib.hid ⟨hH7.out.1.below hb1 hH7.out.1.lt, hH7.out.2.1.below hb1 hH7.out.2.1.lt, hH7.out.2.2.1.below hb1 hH7.out.2.2.1.lt, hH7.out.2.2.2.trans (hb1.mono hH7.out.2.2.2.size)⟩) (fun w8 hb8 hH8 => ?_)
    simp only [Act.put, List.setIfInBounds_toArray, List.set_cons_zero, List.set_cons_succ]
    refine takeY (i := 22) (some 43) (v := (.bool false)) rfl rfl (by kernel_rfl) (by kernel_rfl) (by kernel_rfl) (fun _ _ _ h => h) (by rfl) (fun w' hS => by go_simp) (by assumption) ?_
    simp only [Act.put, List.setIfInBounds_toArray, List.set_cons_zero, List.set_cons_succ]
    refine takeL (i := 23) (some 44) 24 (.tmp 2) w.heap.size 0 (pvC fam len z) _ rfl rfl (by kernel_rfl) (by kernel_rfl) (by kernel_rfl) (fun _ _ _ h => h) (by rfl) rfl rfl (fun w' h => h.out.1.range) Tryd.underlying24 rfl (hi_pv fam len z) (by assumption) ?_
    simp only [Act.put, List.setIfInBounds_toArray, List.set_cons_zero, List.set_cons_succ]
    refine takeC (i := 24) (some 45) 13 #[.agg (pvC fam len z)] (.int .i64 3) rfl rfl (by kernel_rfl) (by rfl) (by go_simp) (HK.out _) (fun w1 hb1 => Lib.hid ⟨hH8.out.1.below hb1 hH8.out.1.lt, hH8.out.2.1.below hb1 hH8.out.2.1.lt, hH8.out.2.2.1.below hb1 hH8.out.2.2.1.lt, hH8.out.2.2.2.trans (hb1.mono hH8.out.2.2.2.size)⟩) (fun w9 hb9 hH9 => ?_)
    simp only [Act.put, List.setIfInBounds_toArray, List.set_cons_zero, List.set_cons_succ]
    refine takeY (i := 25) (some 46) (v := (.bool true)) rfl rfl (by kernel_rfl) (by kernel_rfl) (by kernel_rfl) (fun _ _ _ h => h) (by rfl) (fun w' hS => by go_simp) (by assumption) ?_
    simp only [Act.put, List.setIfInBounds_toArray, List.set_cons_zero, List.set_cons_succ]
    refine takeY (i := 26) (some 47) (v := (.bool true)) rfl rfl (by kernel_rfl) (by kernel_rfl) (by kernel_rfl) (fun _ _ _ h => h) (by rfl) (fun w' hS => by go_simp) (by assumption) ?_
    simp only [Act.put, List.setIfInBounds_toArray, List.set_cons_zero, List.set_cons_succ]
    refine takeY (i := 27) (some 48) (v := (.bool true)) rfl rfl (by kernel_rfl) (by kernel_rfl) (by kernel_rfl) (fun _ _ _ h => h) (by rfl) (fun w' hS => by go_simp) (by assumption) ?_
    simp only [Act.put, List.setIfInBounds_toArray, List.set_cons_zero, List.set_cons_succ]
    refine takeY (i := 28) (some 4) (v := (.bool true)) rfl rfl (by kernel_rfl) (by kernel_rfl) (by kernel_rfl) (fun _ _ _ h => h) (by rfl) (fun w' hS => by go_simp) (by assumption) ?_
    simp only [Act.put, List.setIfInBounds_toArray, List.set_cons_zero, List.set_cons_succ]
    refine wpAnyH_done (by kernel_rfl) ?_ _
    go_wp2
    go_ret
    exact ⟨rfl, hH9.out.2.2.2⟩
end Go.Proofs.YtnllhedmkjmaiaaDoor
