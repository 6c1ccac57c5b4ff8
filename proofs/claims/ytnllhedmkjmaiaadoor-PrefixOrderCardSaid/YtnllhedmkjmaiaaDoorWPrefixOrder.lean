/- The walk of PrefixOrder. Conditions: the library's variables that the example reads lie as the text lays them. -/
import Derived.Test.YtnllhedmkjmaiaaDoorPLess
import Derived.Test.YtnllhedmkjmaiaaDoorPThree
namespace Go.Proofs.YtnllhedmkjmaiaaDoor
open Go.RowKit
set_option linter.unusedVariables false

set_option maxHeartbeats 4000000 in
set_option maxRecDepth 100000 in
theorem walkPrefixOrder (fam0 len0 : Int) (z0 : Nat → Int) (hf0 : 0 ≤ fam0 ∧ fam0 ≤ 255) (hl0 : -9223372036854775808 ≤ len0 ∧ len0 ≤ 9223372036854775807) (hz0 : Bytes z0) (fam1 len1 : Int) (z1 : Nat → Int) (hf1 : 0 ≤ fam1 ∧ fam1 ≤ 255) (hl1 : -9223372036854775808 ≤ len1 ∧ len1 ≤ 9223372036854775807) (hz1 : Bytes z1) (fam2 len2 : Int) (z2 : Nat → Int) (hf2 : 0 ≤ fam2 ∧ fam2 ≤ 255) (hl2 : -9223372036854775808 ≤ len2 ∧ len2 ≤ 9223372036854775807) (hz2 : Bytes z2) (w : World) (m : Int) (hL : Lays w m) :
    Calls Tryd.prog 7 #[.agg (pvC fam0 len0 z0), .agg (pvC fam1 len1 z1), .agg (pvC fam2 len2 z2)] w fun e w' => e = .returned (.bool true) ∧ Below w.heap.size w w' := by
  have HL := Lib.hid hL
  have HP := Lib.hid (v3_p fam0 len0 z0 fam1 len1 z1 fam2 len2 z2 w)
  have HQ := Lib.hid (v3_q fam0 len0 z0 fam1 len1 z1 fam2 len2 z2 w)
  have HR := Lib.hid (v3_r fam0 len0 z0 fam1 len1 z1 fam2 len2 z2 w)
  have HB := Lib.hid (v3_below fam0 len0 z0 fam1 len1 z1 fam2 len2 z2 w)
  clear hL hf0 hl0 hf1 hl1 hf2 hl2
  go_enter Tryd.func7, Tryd.ntmps7
  go_wp2_with fail
  refine (awake_any m _ (HL.out.below HB.out)).mono ?_
  rintro e1 w1 ⟨rfl, hb1⟩
  have HP1 := Lib.hid (HP.out.below hb1 HP.out.lt)
  have HQ1 := Lib.hid (HQ.out.below hb1 HQ.out.lt)
  have HR1 := Lib.hid (HR.out.below hb1 HR.out.lt)
  have HB1 := Lib.hid (HB.out.trans (hb1.mono HB.out.size))
  clear hb1 HP HQ HR HB
  by_cases hA : Form fam0 len0 z0 ∧ Form fam1 len1 z1
  · by_cases hC : Form fam2 len2 z2
    · go_wp2_with (first | (refine load_pv rfl (.tmp 3) rfl rfl HP1.out ?_) | (refine load_pv rfl (.tmp 4) rfl rfl HQ1.out ?_) | (refine load_pv rfl (.tmp 5) rfl rfl HR1.out ?_))
      refine (cmp_ok fam0 len0 z0 fam1 len1 z1 _ hz0 hz1 hA.1 hA.2).mono ?_
      rintro e2 w2 ⟨rfl, hb2⟩
      have HP2 := Lib.hid (HP1.out.below hb2 HP1.out.lt)
      have HQ2 := Lib.hid (HQ1.out.below hb2 HQ1.out.lt)
      have HR2 := Lib.hid (HR1.out.below hb2 HR1.out.lt)
      have HB2 := Lib.hid (HB1.out.trans (hb2.mono HB1.out.size))
      clear hb2 HP1 HQ1 HR1 HB1
      go_wp2_with (first | (refine load_pv rfl (.tmp 3) rfl rfl HP2.out ?_) | (refine load_pv rfl (.tmp 4) rfl rfl HQ2.out ?_) | (refine load_pv rfl (.tmp 5) rfl rfl HR2.out ?_))
      refine (cmp_ok fam1 len1 z1 fam2 len2 z2 _ hz1 hz2 hA.2 hC).mono ?_
      rintro e3 w3 ⟨rfl, hb3⟩
      have HP3 := Lib.hid (HP2.out.below hb3 HP2.out.lt)
      have HQ3 := Lib.hid (HQ2.out.below hb3 HQ2.out.lt)
      have HR3 := Lib.hid (HR2.out.below hb3 HR2.out.lt)
      have HB3 := Lib.hid (HB2.out.trans (hb3.mono HB2.out.size))
      clear hb3 HP2 HQ2 HR2 HB2
      go_wp2_with (first | (refine load_pv rfl (.tmp 3) rfl rfl HP3.out ?_) | (refine load_pv rfl (.tmp 4) rfl rfl HQ3.out ?_) | (refine load_pv rfl (.tmp 5) rfl rfl HR3.out ?_))
      refine (cmp_ok fam0 len0 z0 fam2 len2 z2 _ hz0 hz2 hA.1 hC).mono ?_
      rintro e4 w4 ⟨rfl, hb4⟩
      have HP4 := Lib.hid (HP3.out.below hb4 HP3.out.lt)
      have HQ4 := Lib.hid (HQ3.out.below hb4 HQ3.out.lt)
      have HR4 := Lib.hid (HR3.out.below hb4 HR3.out.lt)
      have HB4 := Lib.hid (HB3.out.trans (hb4.mono HB3.out.size))
      clear hb4 HP3 HQ3 HR3 HB3
      go_wp2_with (first | (refine load_pv rfl (.tmp 3) rfl rfl HP4.out ?_) | (refine load_pv rfl (.tmp 4) rfl rfl HQ4.out ?_) | (refine load_pv rfl (.tmp 5) rfl rfl HR4.out ?_))
      refine (cmp_ok fam1 len1 z1 fam0 len0 z0 _ hz1 hz0 hA.2 hA.1).mono ?_
      rintro e5 w5 ⟨rfl, hb5⟩
      have HP5 := Lib.hid (HP4.out.below hb5 HP4.out.lt)
      have HQ5 := Lib.hid (HQ4.out.below hb5 HQ4.out.lt)
      have HR5 := Lib.hid (HR4.out.below hb5 HR4.out.lt)
      have HB5 := Lib.hid (HB4.out.trans (hb5.mono HB4.out.size))
      clear hb5 HP4 HQ4 HR4 HB4
      have hkey : decide (keyP fam0 len0 z0 = keyP fam1 len1 z1) = decide (fam0 = fam1 ∧ len0 = len1 ∧ Same16 z0 z1) := by simp only [keyP_eq hz0 hz1 (sized_le hA.1.1) (sized_le hA.2.1)]
      clear hA hC
      generalize keyP fam0 len0 z0 = kp at *
      generalize keyP fam1 len1 z1 = kq at *
      generalize keyP fam2 len2 z2 = kr at *
      rcases Int.lt_trichotomy kp kq with h | h | h
      · have HE := Lib.hid (show decide (fam0 = fam1 ∧ len0 = len1 ∧ Same16 z0 z1) = false by rw [← hkey]; simp; omega)
        clear hkey
        rcases Int.lt_trichotomy kq kr with h' | h' | h'
        · rw [cmp1_lt h, cmp1_lt h', cmp1_lt (show kp < kr by omega), cmp1_gt (h)]
          go_wp2_with (first | (refine load_pv_w (by rfl) (.tmp 3) rfl rfl HP5.out ?_) | (refine load_pv_w (by rfl) (.tmp 4) rfl rfl HQ5.out ?_) | (refine step_val (v := .bool false) (by rfl) (eql_is (fam := fam0) (len := len0) (fam' := fam1) (len' := len1) (z := z0) (z' := z1) false HE.out _ _ _ _ rfl hz0 hz1 rfl rfl _) ?_))
          go_ret
          exact ⟨rfl, HB5.out⟩
        · rw [cmp1_lt h, cmp1_eq h', cmp1_lt (show kp < kr by omega), cmp1_gt (h)]
          go_wp2_with (first | (refine load_pv_w (by rfl) (.tmp 3) rfl rfl HP5.out ?_) | (refine load_pv_w (by rfl) (.tmp 4) rfl rfl HQ5.out ?_) | (refine step_val (v := .bool false) (by rfl) (eql_is (fam := fam0) (len := len0) (fam' := fam1) (len' := len1) (z := z0) (z' := z1) false HE.out _ _ _ _ rfl hz0 hz1 rfl rfl _) ?_))
          go_ret
          exact ⟨rfl, HB5.out⟩
        · rcases Int.lt_trichotomy kp kr with h3 | h3 | h3
          · rw [cmp1_lt h, cmp1_gt h', cmp1_lt (h3), cmp1_gt (h)]
            go_wp2_with (first | (refine load_pv_w (by rfl) (.tmp 3) rfl rfl HP5.out ?_) | (refine load_pv_w (by rfl) (.tmp 4) rfl rfl HQ5.out ?_) | (refine step_val (v := .bool false) (by rfl) (eql_is (fam := fam0) (len := len0) (fam' := fam1) (len' := len1) (z := z0) (z' := z1) false HE.out _ _ _ _ rfl hz0 hz1 rfl rfl _) ?_))
            go_ret
            exact ⟨rfl, HB5.out⟩
          · rw [cmp1_lt h, cmp1_gt h', cmp1_eq (h3), cmp1_gt (h)]
            go_wp2_with (first | (refine load_pv_w (by rfl) (.tmp 3) rfl rfl HP5.out ?_) | (refine load_pv_w (by rfl) (.tmp 4) rfl rfl HQ5.out ?_) | (refine step_val (v := .bool false) (by rfl) (eql_is (fam := fam0) (len := len0) (fam' := fam1) (len' := len1) (z := z0) (z' := z1) false HE.out _ _ _ _ rfl hz0 hz1 rfl rfl _) ?_))
            go_ret
            exact ⟨rfl, HB5.out⟩
          · rw [cmp1_lt h, cmp1_gt h', cmp1_gt (h3), cmp1_gt (h)]
            go_wp2_with (first | (refine load_pv_w (by rfl) (.tmp 3) rfl rfl HP5.out ?_) | (refine load_pv_w (by rfl) (.tmp 4) rfl rfl HQ5.out ?_) | (refine step_val (v := .bool false) (by rfl) (eql_is (fam := fam0) (len := len0) (fam' := fam1) (len' := len1) (z := z0) (z' := z1) false HE.out _ _ _ _ rfl hz0 hz1 rfl rfl _) ?_))
            go_ret
            exact ⟨rfl, HB5.out⟩
      · have HE := Lib.hid (show decide (fam0 = fam1 ∧ len0 = len1 ∧ Same16 z0 z1) = true by rw [← hkey]; simp; omega)
        clear hkey
        rcases Int.lt_trichotomy kq kr with h' | h' | h'
        · rw [cmp1_eq h, cmp1_lt h', cmp1_lt (show kp < kr by omega), cmp1_eq (h.symm)]
          go_wp2_with (first | (refine load_pv_w (by rfl) (.tmp 3) rfl rfl HP5.out ?_) | (refine load_pv_w (by rfl) (.tmp 4) rfl rfl HQ5.out ?_) | (refine step_val (v := .bool true) (by rfl) (eql_is (fam := fam0) (len := len0) (fam' := fam1) (len' := len1) (z := z0) (z' := z1) true HE.out _ _ _ _ rfl hz0 hz1 rfl rfl _) ?_))
          go_ret
          exact ⟨rfl, HB5.out⟩
        · rw [cmp1_eq h, cmp1_eq h', cmp1_eq (show kp = kr by omega), cmp1_eq (h.symm)]
          go_wp2_with (first | (refine load_pv_w (by rfl) (.tmp 3) rfl rfl HP5.out ?_) | (refine load_pv_w (by rfl) (.tmp 4) rfl rfl HQ5.out ?_) | (refine step_val (v := .bool true) (by rfl) (eql_is (fam := fam0) (len := len0) (fam' := fam1) (len' := len1) (z := z0) (z' := z1) true HE.out _ _ _ _ rfl hz0 hz1 rfl rfl _) ?_))
          go_ret
          exact ⟨rfl, HB5.out⟩
        · rw [cmp1_eq h, cmp1_gt h', cmp1_gt (show kr < kp by omega), cmp1_eq (h.symm)]
          go_wp2_with (first | (refine load_pv_w (by rfl) (.tmp 3) rfl rfl HP5.out ?_) | (refine load_pv_w (by rfl) (.tmp 4) rfl rfl HQ5.out ?_) | (refine step_val (v := .bool true) (by rfl) (eql_is (fam := fam0) (len := len0) (fam' := fam1) (len' := len1) (z := z0) (z' := z1) true HE.out _ _ _ _ rfl hz0 hz1 rfl rfl _) ?_))
          go_ret
          exact ⟨rfl, HB5.out⟩
      · have HE := Lib.hid (show decide (fam0 = fam1 ∧ len0 = len1 ∧ Same16 z0 z1) = false by rw [← hkey]; simp; omega)
        clear hkey
        rcases Int.lt_trichotomy kq kr with h' | h' | h'
        · rcases Int.lt_trichotomy kp kr with h3 | h3 | h3
          · rw [cmp1_gt h, cmp1_lt h', cmp1_lt (h3), cmp1_lt (h)]
            go_wp2_with (first | (refine load_pv_w (by rfl) (.tmp 3) rfl rfl HP5.out ?_) | (refine load_pv_w (by rfl) (.tmp 4) rfl rfl HQ5.out ?_) | (refine step_val (v := .bool false) (by rfl) (eql_is (fam := fam0) (len := len0) (fam' := fam1) (len' := len1) (z := z0) (z' := z1) false HE.out _ _ _ _ rfl hz0 hz1 rfl rfl _) ?_))
            go_ret
            exact ⟨rfl, HB5.out⟩
          · rw [cmp1_gt h, cmp1_lt h', cmp1_eq (h3), cmp1_lt (h)]
            go_wp2_with (first | (refine load_pv_w (by rfl) (.tmp 3) rfl rfl HP5.out ?_) | (refine load_pv_w (by rfl) (.tmp 4) rfl rfl HQ5.out ?_) | (refine step_val (v := .bool false) (by rfl) (eql_is (fam := fam0) (len := len0) (fam' := fam1) (len' := len1) (z := z0) (z' := z1) false HE.out _ _ _ _ rfl hz0 hz1 rfl rfl _) ?_))
            go_ret
            exact ⟨rfl, HB5.out⟩
          · rw [cmp1_gt h, cmp1_lt h', cmp1_gt (h3), cmp1_lt (h)]
            go_wp2_with (first | (refine load_pv_w (by rfl) (.tmp 3) rfl rfl HP5.out ?_) | (refine load_pv_w (by rfl) (.tmp 4) rfl rfl HQ5.out ?_) | (refine step_val (v := .bool false) (by rfl) (eql_is (fam := fam0) (len := len0) (fam' := fam1) (len' := len1) (z := z0) (z' := z1) false HE.out _ _ _ _ rfl hz0 hz1 rfl rfl _) ?_))
            go_ret
            exact ⟨rfl, HB5.out⟩
        · rw [cmp1_gt h, cmp1_eq h', cmp1_gt (show kr < kp by omega), cmp1_lt (h)]
          go_wp2_with (first | (refine load_pv_w (by rfl) (.tmp 3) rfl rfl HP5.out ?_) | (refine load_pv_w (by rfl) (.tmp 4) rfl rfl HQ5.out ?_) | (refine step_val (v := .bool false) (by rfl) (eql_is (fam := fam0) (len := len0) (fam' := fam1) (len' := len1) (z := z0) (z' := z1) false HE.out _ _ _ _ rfl hz0 hz1 rfl rfl _) ?_))
          go_ret
          exact ⟨rfl, HB5.out⟩
        · rw [cmp1_gt h, cmp1_gt h', cmp1_gt (show kr < kp by omega), cmp1_lt (h)]
          go_wp2_with (first | (refine load_pv_w (by rfl) (.tmp 3) rfl rfl HP5.out ?_) | (refine load_pv_w (by rfl) (.tmp 4) rfl rfl HQ5.out ?_) | (refine step_val (v := .bool false) (by rfl) (eql_is (fam := fam0) (len := len0) (fam' := fam1) (len' := len1) (z := z0) (z' := z1) false HE.out _ _ _ _ rfl hz0 hz1 rfl rfl _) ?_))
          go_ret
          exact ⟨rfl, HB5.out⟩
    · obtain ⟨cr, gr, hdr, _⟩ := cmp_one fam0 len0 z0 fam2 len2 z2 hz0 hz2
      have HDr := Lib.hid hdr
      clear hdr
      obtain ⟨cs, gs, hds, _⟩ := cmp_one fam1 len1 z1 fam0 len0 z0 hz1 hz0
      have HDs := Lib.hid hds
      clear hds
      go_wp2_with (first | (refine load_pv rfl (.tmp 3) rfl rfl HP1.out ?_) | (refine load_pv rfl (.tmp 4) rfl rfl HQ1.out ?_) | (refine load_pv rfl (.tmp 5) rfl rfl HR1.out ?_))
      refine (cmp_ok fam0 len0 z0 fam1 len1 z1 _ hz0 hz1 hA.1 hA.2).mono ?_
      rintro e2 w2 ⟨rfl, hb2⟩
      have HP2 := Lib.hid (HP1.out.below hb2 HP1.out.lt)
      have HQ2 := Lib.hid (HQ1.out.below hb2 HQ1.out.lt)
      have HR2 := Lib.hid (HR1.out.below hb2 HR1.out.lt)
      have HB2 := Lib.hid (HB1.out.trans (hb2.mono HB1.out.size))
      clear hb2 HP1 HQ1 HR1 HB1
      go_wp2_with (first | (refine load_pv rfl (.tmp 3) rfl rfl HP2.out ?_) | (refine load_pv rfl (.tmp 4) rfl rfl HQ2.out ?_) | (refine load_pv rfl (.tmp 5) rfl rfl HR2.out ?_))
      refine (cmp_form fam1 len1 z1 fam2 len2 z2 _ hz1 hz2 (fun h => hC h.2)).mono ?_
      rintro e3 w3 ⟨rfl, hb3⟩
      have HP3 := Lib.hid (HP2.out.below hb3 HP2.out.lt)
      have HQ3 := Lib.hid (HQ2.out.below hb3 HQ2.out.lt)
      have HR3 := Lib.hid (HR2.out.below hb3 HR2.out.lt)
      have HB3 := Lib.hid (HB2.out.trans (hb3.mono HB2.out.size))
      clear hb3 HP2 HQ2 HR2 HB2
      go_wp2_with (first | (refine load_pv rfl (.tmp 3) rfl rfl HP3.out ?_) | (refine load_pv rfl (.tmp 4) rfl rfl HQ3.out ?_) | (refine load_pv rfl (.tmp 5) rfl rfl HR3.out ?_))
      refine (HDr.out _).mono ?_
      rintro e4 w4 ⟨rfl, hb4⟩
      have HP4 := Lib.hid (HP3.out.below hb4 HP3.out.lt)
      have HQ4 := Lib.hid (HQ3.out.below hb4 HQ3.out.lt)
      have HR4 := Lib.hid (HR3.out.below hb4 HR3.out.lt)
      have HB4 := Lib.hid (HB3.out.trans (hb4.mono HB3.out.size))
      clear hb4 HP3 HQ3 HR3 HB3
      go_wp2_with (first | (refine load_pv rfl (.tmp 3) rfl rfl HP4.out ?_) | (refine load_pv rfl (.tmp 4) rfl rfl HQ4.out ?_) | (refine load_pv rfl (.tmp 5) rfl rfl HR4.out ?_))
      refine (HDs.out _).mono ?_
      rintro e5 w5 ⟨rfl, hb5⟩
      have HP5 := Lib.hid (HP4.out.below hb5 HP4.out.lt)
      have HQ5 := Lib.hid (HQ4.out.below hb5 HQ4.out.lt)
      have HR5 := Lib.hid (HR4.out.below hb5 HR4.out.lt)
      have HB5 := Lib.hid (HB4.out.trans (hb5.mono HB4.out.size))
      clear hb5 HP4 HQ4 HR4 HB4
      go_wp2
      go_ret
      exact ⟨rfl, HB5.out⟩
  · obtain ⟨cq, gq, hdq, _⟩ := cmp_one fam1 len1 z1 fam2 len2 z2 hz1 hz2
    have HDq := Lib.hid hdq
    clear hdq
    obtain ⟨cr, gr, hdr, _⟩ := cmp_one fam0 len0 z0 fam2 len2 z2 hz0 hz2
    have HDr := Lib.hid hdr
    clear hdr
    obtain ⟨cs, gs, hds, _⟩ := cmp_one fam1 len1 z1 fam0 len0 z0 hz1 hz0
    have HDs := Lib.hid hds
    clear hds
    go_wp2_with (first | (refine load_pv rfl (.tmp 3) rfl rfl HP1.out ?_) | (refine load_pv rfl (.tmp 4) rfl rfl HQ1.out ?_) | (refine load_pv rfl (.tmp 5) rfl rfl HR1.out ?_))
    refine (cmp_form fam0 len0 z0 fam1 len1 z1 _ hz0 hz1 hA).mono ?_
    rintro e2 w2 ⟨rfl, hb2⟩
    have HP2 := Lib.hid (HP1.out.below hb2 HP1.out.lt)
    have HQ2 := Lib.hid (HQ1.out.below hb2 HQ1.out.lt)
    have HR2 := Lib.hid (HR1.out.below hb2 HR1.out.lt)
    have HB2 := Lib.hid (HB1.out.trans (hb2.mono HB1.out.size))
    clear hb2 HP1 HQ1 HR1 HB1
    go_wp2_with (first | (refine load_pv rfl (.tmp 3) rfl rfl HP2.out ?_) | (refine load_pv rfl (.tmp 4) rfl rfl HQ2.out ?_) | (refine load_pv rfl (.tmp 5) rfl rfl HR2.out ?_))
    refine (HDq.out _).mono ?_
    rintro e3 w3 ⟨rfl, hb3⟩
    have HP3 := Lib.hid (HP2.out.below hb3 HP2.out.lt)
    have HQ3 := Lib.hid (HQ2.out.below hb3 HQ2.out.lt)
    have HR3 := Lib.hid (HR2.out.below hb3 HR2.out.lt)
    have HB3 := Lib.hid (HB2.out.trans (hb3.mono HB2.out.size))
    clear hb3 HP2 HQ2 HR2 HB2
    go_wp2_with (first | (refine load_pv rfl (.tmp 3) rfl rfl HP3.out ?_) | (refine load_pv rfl (.tmp 4) rfl rfl HQ3.out ?_) | (refine load_pv rfl (.tmp 5) rfl rfl HR3.out ?_))
    refine (HDr.out _).mono ?_
    rintro e4 w4 ⟨rfl, hb4⟩
    have HP4 := Lib.hid (HP3.out.below hb4 HP3.out.lt)
    have HQ4 := Lib.hid (HQ3.out.below hb4 HQ3.out.lt)
    have HR4 := Lib.hid (HR3.out.below hb4 HR3.out.lt)
    have HB4 := Lib.hid (HB3.out.trans (hb4.mono HB3.out.size))
    clear hb4 HP3 HQ3 HR3 HB3
    go_wp2_with (first | (refine load_pv rfl (.tmp 3) rfl rfl HP4.out ?_) | (refine load_pv rfl (.tmp 4) rfl rfl HQ4.out ?_) | (refine load_pv rfl (.tmp 5) rfl rfl HR4.out ?_))
    refine (HDs.out _).mono ?_
    rintro e5 w5 ⟨rfl, hb5⟩
    have HP5 := Lib.hid (HP4.out.below hb5 HP4.out.lt)
    have HQ5 := Lib.hid (HQ4.out.below hb5 HQ4.out.lt)
    have HR5 := Lib.hid (HR4.out.below hb5 HR4.out.lt)
    have HB5 := Lib.hid (HB4.out.trans (hb5.mono HB4.out.size))
    clear hb5 HP4 HQ4 HR4 HB4
    go_wp2
    go_ret
    exact ⟨rfl, HB5.out⟩
end Go.Proofs.YtnllhedmkjmaiaaDoor
