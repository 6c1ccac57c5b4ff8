/- The walk of PrefixLaws. Conditions: the library's variables that the example reads lie as the text lays them. -/
import Derived.Test.YtnllhedmkjmaiaaDoorPLaw
import Derived.Test.YtnllhedmkjmaiaaDoorPThree
import Derived.ProofKit
import Derived.OpenShut
namespace Go.Proofs.YtnllhedmkjmaiaaDoor
open Go.RowKit
set_option linter.unusedVariables false

set_option maxHeartbeats 4000000 in
set_option maxRecDepth 100000 in
theorem walkPrefixLaws (fam0 len0 : Int) (z0 : Nat → Int) (hf0 : 0 ≤ fam0 ∧ fam0 ≤ 255) (hl0 : -9223372036854775808 ≤ len0 ∧ len0 ≤ 9223372036854775807) (hz0 : Bytes z0) (fam1 len1 : Int) (z1 : Nat → Int) (hf1 : 0 ≤ fam1 ∧ fam1 ≤ 255) (hl1 : -9223372036854775808 ≤ len1 ∧ len1 ≤ 9223372036854775807) (hz1 : Bytes z1) (fam2 len2 : Int) (z2 : Nat → Int) (hf2 : 0 ≤ fam2 ∧ fam2 ≤ 255) (hl2 : -9223372036854775808 ≤ len2 ∧ len2 ≤ 9223372036854775807) (hz2 : Bytes z2) (a3 : Int) (wa : (Lit.int .u8 a3).wf = true) (w : World) (m : Int) (hL : Lays w m) :
    Calls Tryd.prog 6 #[.agg (pvC fam0 len0 z0), .agg (pvC fam1 len1 z1), .agg (pvC fam2 len2 z2), .int .u8 a3] w fun e w' => e = .returned (.bool true) ∧ Below w.heap.size w w' := by
  have HL := Lib.hid hL
  have HP := Lib.hid (v3_p fam0 len0 z0 fam1 len1 z1 fam2 len2 z2 w)
  have HQ := Lib.hid (v3_q fam0 len0 z0 fam1 len1 z1 fam2 len2 z2 w)
  have HR := Lib.hid (v3_r fam0 len0 z0 fam1 len1 z1 fam2 len2 z2 w)
  have HB := Lib.hid (v3_below fam0 len0 z0 fam1 len1 z1 fam2 len2 z2 w)
  have HK0 := Lib.hid (fun W => check_any fam0 len0 z0 W hz0)
  have HK1 := Lib.hid (fun W => check_any fam1 len1 z1 W hz1)
  have HK2 := Lib.hid (fun W => check_any fam2 len2 z2 W hz2)
  have ha := bounds_u8 wa
  clear hL hf0 hl0 hf1 hl1 hf2 hl2 wa
  go_enter Tryd.func6, Tryd.ntmps6
  go_wp2_with fail
  refine (awake_any m _ (HL.out.below HB.out)).mono ?_
  rintro e1 w1 ⟨rfl, hb1⟩
  have HP1 := Lib.hid (HP.out.below hb1 HP.out.lt)
  have HQ1 := Lib.hid (HQ.out.below hb1 HQ.out.lt)
  have HR1 := Lib.hid (HR.out.below hb1 HR.out.lt)
  have HB1 := Lib.hid (HB.out.trans (hb1.mono HB.out.size))
  clear hb1 HP HQ HR HB
  by_cases hF0 : Form fam0 len0 z0
  · rw [show checkI fam0 len0 z0 = 0 by unfold checkI; rw [if_pos hF0]] at HK0
    by_cases hF1 : Form fam1 len1 z1
    · rw [show checkI fam1 len1 z1 = 0 by unfold checkI; rw [if_pos hF1]] at HK1
      by_cases hF2 : Form fam2 len2 z2
      · rw [show checkI fam2 len2 z2 = 0 by unfold checkI; rw [if_pos hF2]] at HK2
        obtain ⟨l0, rfl⟩ : ∃ l : Nat, len0 = l := ⟨len0.toNat, by have := sized_le hF0.1; omega⟩
        obtain ⟨a0, rfl⟩ : ∃ l : Nat, a3 = l := ⟨a3.toNat, by omega⟩
        have hl0 := (sized_le hF0.1).2
        obtain ⟨x, hx0⟩ : ∃ x, x = a0 % (l0 + 1) := ⟨_, rfl⟩
        have hxl : x ≤ l0 := by rw [hx0]; have := Nat.mod_lt a0 (show 0 < l0 + 1 by omega); omega
        have hx : (a0 : Int).tmod ((l0 : Int) + 1) = (x : Int) := by rw [hx0]; exact rem_nat a0 l0
        have hne : ¬ ((l0 : Int) + 1 = 0) := by omega
        have hxx : x = l0 ∨ x < l0 := by omega
        clear hx0
        have HCV := Lib.hid (fun W => covers_b fam0 (x : Int) (firstZ z0 x) fam0 (l0 : Int) z0 W (firstZ_bd hz0 x) hz0 (cut_form' hz0 hF0 hxl) hF0)
        rw [cut_cov hxl] at HCV
        have HCM := Lib.hid (fun W => cmp_ok fam0 (x : Int) (firstZ z0 x) fam0 (l0 : Int) z0 W (firstZ_bd hz0 x) hz0 (cut_form' hz0 hF0 hxl) hF0)
        go_wp2_with (refine load_pv rfl (.tmp 4) rfl rfl HP1.out ?_)
        refine (HK0.out _).mono ?_
        rintro e2 w2 ⟨rfl, hb2⟩
        have HP2 := Lib.hid (HP1.out.below hb2 HP1.out.lt)
        have HQ2 := Lib.hid (HQ1.out.below hb2 HQ1.out.lt)
        have HR2 := Lib.hid (HR1.out.below hb2 HR1.out.lt)
        have HB2 := Lib.hid (HB1.out.trans (hb2.mono HB1.out.size))
        clear hb2 HP1 HQ1 HR1 HB1
        go_wp2_with (refine load_pv_w (by rfl) (.tmp 5) rfl rfl HQ2.out ?_)
        refine (HK1.out _).mono ?_
        rintro e3 w3 ⟨rfl, hb3⟩
        have HP3 := Lib.hid (HP2.out.below hb3 HP2.out.lt)
        have HQ3 := Lib.hid (HQ2.out.below hb3 HQ2.out.lt)
        have HR3 := Lib.hid (HR2.out.below hb3 HR2.out.lt)
        have HB3 := Lib.hid (HB2.out.trans (hb3.mono HB2.out.size))
        clear hb3 HP2 HQ2 HR2 HB2
        go_wp2_with (refine load_pv_w (by rfl) (.tmp 6) rfl rfl HR3.out ?_)
        refine (HK2.out _).mono ?_
        rintro e4 w4 ⟨rfl, hb4⟩
        have HP4 := Lib.hid (HP3.out.below hb4 HP3.out.lt)
        have HQ4 := Lib.hid (HQ3.out.below hb4 HQ3.out.lt)
        have HR4 := Lib.hid (HR3.out.below hb4 HR3.out.lt)
        have HB4 := Lib.hid (HB3.out.trans (hb4.mono HB3.out.size))
        clear hb4 HP3 HQ3 HR3 HB3
        go_wp2_with (first | (refine load_pv rfl (.tmp 4) rfl rfl HP4.out ?_) | (refine load_pv rfl (.tmp 5) rfl rfl HQ4.out ?_) | (refine load_pv rfl (.tmp 6) rfl rfl HR4.out ?_))
        refine (covers_b fam0 (l0 : Int) z0 fam1 len1 z1 _ hz0 hz1 hF0 hF1).mono ?_
        rintro e5 w5 ⟨rfl, hb5⟩
        have HP5 := Lib.hid (HP4.out.below hb5 HP4.out.lt)
        have HQ5 := Lib.hid (HQ4.out.below hb5 HQ4.out.lt)
        have HR5 := Lib.hid (HR4.out.below hb5 HR4.out.lt)
        have HB5 := Lib.hid (HB4.out.trans (hb5.mono HB4.out.size))
        clear hb5 HP4 HQ4 HR4 HB4
        go_wp2_with (first | (refine load_pv rfl (.tmp 4) rfl rfl HP5.out ?_) | (refine load_pv rfl (.tmp 5) rfl rfl HQ5.out ?_) | (refine load_pv rfl (.tmp 6) rfl rfl HR5.out ?_))
        refine (covers_b fam1 len1 z1 fam2 len2 z2 _ hz1 hz2 hF1 hF2).mono ?_
        rintro e6 w6 ⟨rfl, hb6⟩
        have HP6 := Lib.hid (HP5.out.below hb6 HP5.out.lt)
        have HQ6 := Lib.hid (HQ5.out.below hb6 HQ5.out.lt)
        have HR6 := Lib.hid (HR5.out.below hb6 HR5.out.lt)
        have HB6 := Lib.hid (HB5.out.trans (hb6.mono HB5.out.size))
        clear hb6 HP5 HQ5 HR5 HB5
        go_wp2_with (first | (refine load_pv rfl (.tmp 4) rfl rfl HP6.out ?_) | (refine load_pv rfl (.tmp 5) rfl rfl HQ6.out ?_) | (refine load_pv rfl (.tmp 6) rfl rfl HR6.out ?_))
        refine (covers_b fam0 (l0 : Int) z0 fam2 len2 z2 _ hz0 hz2 hF0 hF2).mono ?_
        rintro e7 w7 ⟨rfl, hb7⟩
        have HP7 := Lib.hid (HP6.out.below hb7 HP6.out.lt)
        have HQ7 := Lib.hid (HQ6.out.below hb7 HQ6.out.lt)
        have HR7 := Lib.hid (HR6.out.below hb7 HR6.out.lt)
        have HB7 := Lib.hid (HB6.out.trans (hb7.mono HB6.out.size))
        clear hb7 HP6 HQ6 HR6 HB6
        go_wp2_with (first | (refine load_pv rfl (.tmp 4) rfl rfl HP7.out ?_) | (refine load_pv rfl (.tmp 5) rfl rfl HQ7.out ?_) | (refine load_pv rfl (.tmp 6) rfl rfl HR7.out ?_))
        refine (covers_b fam1 len1 z1 fam0 (l0 : Int) z0 _ hz1 hz0 hF1 hF0).mono ?_
        rintro e8 w8 ⟨rfl, hb8⟩
        have HP8 := Lib.hid (HP7.out.below hb8 HP7.out.lt)
        have HQ8 := Lib.hid (HQ7.out.below hb8 HQ7.out.lt)
        have HR8 := Lib.hid (HR7.out.below hb8 HR7.out.lt)
        have HB8 := Lib.hid (HB7.out.trans (hb8.mono HB7.out.size))
        clear hb8 HP7 HQ7 HR7 HB7
        have ht : covB fam0 (l0 : Int) z0 fam1 len1 z1 = true → covB fam1 len1 z1 fam2 len2 z2 = true → covB fam0 (l0 : Int) z0 fam2 len2 z2 = true := fun h1 h2 => cov_trans hz2 (show (0 : Int) ≤ (l0 : Int) by omega) h1 h2
        have hs : covB fam0 (l0 : Int) z0 fam1 len1 z1 = true → covB fam1 len1 z1 fam0 (l0 : Int) z0 = true → fam0 = fam1 ∧ (l0 : Int) = len1 ∧ Same16 z0 z1 := fun h1 h2 => cov_anti hF1 h1 h2
        generalize covB fam0 (l0 : Int) z0 fam1 len1 z1 = a at *
        generalize covB fam1 len1 z1 fam2 len2 z2 = b at *
        generalize covB fam0 (l0 : Int) z0 fam2 len2 z2 = c at *
        generalize covB fam1 len1 z1 fam0 (l0 : Int) z0 = d at *
        cases a
        · clear ht hs
          have g0 := HP8.out.len
          go_wp2_with (first | (refine load_pv rfl (.tmp 4) rfl rfl HP8.out ?_))
          clear g0
          refine (cut_ok fam0 l0 x z0 _ hz0 hxl hF0.1).mono ?_
          rintro e9 w9 ⟨rfl, hb9⟩
          have HP9 := Lib.hid (HP8.out.below hb9 HP8.out.lt)
          have HB9 := Lib.hid (HB8.out.trans (hb9.mono HB8.out.size))
          clear hb9 HP8 HB8
          have HX := Lib.hid (IsPv.new w9 0 0 Z0)
          have hall := Lib.hid (all_pv fam0 (x : Int) (firstZ z0 x))
          go_wp2_with (first | (refine store_blk rfl (.tmp 18) (.tmp 108) (cells := pvC fam0 (x : Int) (firstZ z0 x)) rfl rfl rfl HX.out info_pv rfl hall.out ?_; intro w10 hg10 hb10 ho10; refine Hid.out ?_))
          refine Lib.hid ?_
          have HW := Lib.hid (((bself w9).alloc (Nat.le_refl _) (.cells (pvC 0 0 Z0) 24)).trans (hb10 w9.heap.size (Nat.le_refl _)))
          have HP10 := Lib.hid (HP9.out.below HW.out HP9.out.lt)
          have HB10 := Lib.hid (HB9.out.trans (HW.out.mono HB9.out.size))
          have HC10 := Lib.hid (show IsPv w10 w9.heap.size fam0 (x : Int) (firstZ z0 x) from hg10)
          clear hg10 hb10 ho10 HX hall HW HP9 HB9
          go_wp2_with (first | (refine load_pv rfl (.tmp 18) rfl rfl HC10.out ?_) | (refine load_pv rfl (.tmp 4) rfl rfl HP10.out ?_))
          refine (HCV.out _).mono ?_
          rintro e11 w11 ⟨rfl, hb11⟩
          have HP11 := Lib.hid (HP10.out.below hb11 HP10.out.lt)
          have HC11 := Lib.hid (HC10.out.below hb11 HC10.out.lt)
          have HB11 := Lib.hid (HB10.out.trans (hb11.mono HB10.out.size))
          clear hb11 HP10 HC10 HB10
          go_wp2_with (first | (refine load_pv rfl (.tmp 18) rfl rfl HC11.out ?_) | (refine load_pv rfl (.tmp 4) rfl rfl HP11.out ?_))
          refine (HCM.out _).mono ?_
          rintro e12 w12 ⟨rfl, hb12⟩
          have HP12 := Lib.hid (HP11.out.below hb12 HP11.out.lt)
          have HC12 := Lib.hid (HC11.out.below hb12 HC11.out.lt)
          have HB12 := Lib.hid (HB11.out.trans (hb12.mono HB11.out.size))
          clear hb12 HP11 HC11 HB11
          have g1 := HP12.out.len
          rcases hxx with hxx | hxx
          · have hk := cut_same (fam := fam0) (z := z0) hF0
            subst hxx
            rw [cmp1_eq hk]
            go_wp2
            go_ret
            exact ⟨rfl, HB12.out⟩
          · have hk := cut_lt (fam := fam0) hz0 hxx
            have hxn : ¬ (x : Int) = (l0 : Int) := by omega
            have hxe : ((x : Int) == (l0 : Int)) = false := beq_false_of_ne (show (x : Int) ≠ (l0 : Int) by omega)
            rw [cmp1_lt hk]
            go_wp2_with (first | (refine load_pv_w (by rfl) (.tmp 18) rfl rfl HC12.out ?_) | (refine load_pv_w (by rfl) (.tmp 4) rfl rfl HP12.out ?_) | (refine step_val (v := .bool false) (by rfl) (eql_is (fam := fam0) (len := (x : Int)) (fam' := fam0) (len' := (l0 : Int)) (z := firstZ z0 x) (z' := z0) false (by simp [hxn]) _ _ _ _ rfl (firstZ_bd hz0 x) hz0 rfl rfl _) ?_))
            go_ret
            exact ⟨rfl, HB12.out⟩
        · cases b
          · cases d
            · clear ht hs
              have g0 := HP8.out.len
              go_wp2_with (first | (refine load_pv rfl (.tmp 4) rfl rfl HP8.out ?_))
              clear g0
              refine (cut_ok fam0 l0 x z0 _ hz0 hxl hF0.1).mono ?_
              rintro e9 w9 ⟨rfl, hb9⟩
              have HP9 := Lib.hid (HP8.out.below hb9 HP8.out.lt)
              have HB9 := Lib.hid (HB8.out.trans (hb9.mono HB8.out.size))
              clear hb9 HP8 HB8
              have HX := Lib.hid (IsPv.new w9 0 0 Z0)
              have hall := Lib.hid (all_pv fam0 (x : Int) (firstZ z0 x))
              go_wp2_with (first | (refine store_blk rfl (.tmp 18) (.tmp 108) (cells := pvC fam0 (x : Int) (firstZ z0 x)) rfl rfl rfl HX.out info_pv rfl hall.out ?_; intro w10 hg10 hb10 ho10; refine Hid.out ?_))
              refine Lib.hid ?_
              have HW := Lib.hid (((bself w9).alloc (Nat.le_refl _) (.cells (pvC 0 0 Z0) 24)).trans (hb10 w9.heap.size (Nat.le_refl _)))
              have HP10 := Lib.hid (HP9.out.below HW.out HP9.out.lt)
              have HB10 := Lib.hid (HB9.out.trans (HW.out.mono HB9.out.size))
              have HC10 := Lib.hid (show IsPv w10 w9.heap.size fam0 (x : Int) (firstZ z0 x) from hg10)
              clear hg10 hb10 ho10 HX hall HW HP9 HB9
              go_wp2_with (first | (refine load_pv rfl (.tmp 18) rfl rfl HC10.out ?_) | (refine load_pv rfl (.tmp 4) rfl rfl HP10.out ?_))
              refine (HCV.out _).mono ?_
              rintro e11 w11 ⟨rfl, hb11⟩
              have HP11 := Lib.hid (HP10.out.below hb11 HP10.out.lt)
              have HC11 := Lib.hid (HC10.out.below hb11 HC10.out.lt)
              have HB11 := Lib.hid (HB10.out.trans (hb11.mono HB10.out.size))
              clear hb11 HP10 HC10 HB10
              go_wp2_with (first | (refine load_pv rfl (.tmp 18) rfl rfl HC11.out ?_) | (refine load_pv rfl (.tmp 4) rfl rfl HP11.out ?_))
              refine (HCM.out _).mono ?_
              rintro e12 w12 ⟨rfl, hb12⟩
              have HP12 := Lib.hid (HP11.out.below hb12 HP11.out.lt)
              have HC12 := Lib.hid (HC11.out.below hb12 HC11.out.lt)
              have HB12 := Lib.hid (HB11.out.trans (hb12.mono HB11.out.size))
              clear hb12 HP11 HC11 HB11
              have g1 := HP12.out.len
              rcases hxx with hxx | hxx
              · have hk := cut_same (fam := fam0) (z := z0) hF0
                subst hxx
                rw [cmp1_eq hk]
                go_wp2
                go_ret
                exact ⟨rfl, HB12.out⟩
              · have hk := cut_lt (fam := fam0) hz0 hxx
                have hxn : ¬ (x : Int) = (l0 : Int) := by omega
                have hxe : ((x : Int) == (l0 : Int)) = false := beq_false_of_ne (show (x : Int) ≠ (l0 : Int) by omega)
                rw [cmp1_lt hk]
                go_wp2_with (first | (refine load_pv_w (by rfl) (.tmp 18) rfl rfl HC12.out ?_) | (refine load_pv_w (by rfl) (.tmp 4) rfl rfl HP12.out ?_) | (refine step_val (v := .bool false) (by rfl) (eql_is (fam := fam0) (len := (x : Int)) (fam' := fam0) (len' := (l0 : Int)) (z := firstZ z0 x) (z' := z0) false (by simp [hxn]) _ _ _ _ rfl (firstZ_bd hz0 x) hz0 rfl rfl _) ?_))
                go_ret
                exact ⟨rfl, HB12.out⟩
            · have HEQ := Lib.hid (show (!decide (fam0 = fam1 ∧ (l0 : Int) = len1 ∧ Same16 z0 z1)) = false by have := hs rfl rfl; simp [this])
              clear ht hs
              have g0 := HP8.out.len
              go_wp2_with (first | (refine load_pv_w (by rfl) (.tmp 4) rfl rfl HP8.out ?_) | (refine load_pv_w (by rfl) (.tmp 5) rfl rfl HQ8.out ?_) | (refine step_val (v := .bool false) (by rfl) (neq_is (fam := fam0) (len := (l0 : Int)) (fam' := fam1) (len' := len1) (z := z0) (z' := z1) false HEQ.out _ _ _ _ rfl hz0 hz1 rfl rfl _) ?_))
              clear g0
              refine (cut_ok fam0 l0 x z0 _ hz0 hxl hF0.1).mono ?_
              rintro e9 w9 ⟨rfl, hb9⟩
              have HP9 := Lib.hid (HP8.out.below hb9 HP8.out.lt)
              have HB9 := Lib.hid (HB8.out.trans (hb9.mono HB8.out.size))
              clear hb9 HP8 HB8
              have HX := Lib.hid (IsPv.new w9 0 0 Z0)
              have hall := Lib.hid (all_pv fam0 (x : Int) (firstZ z0 x))
              go_wp2_with (first | (refine store_blk rfl (.tmp 18) (.tmp 108) (cells := pvC fam0 (x : Int) (firstZ z0 x)) rfl rfl rfl HX.out info_pv rfl hall.out ?_; intro w10 hg10 hb10 ho10; refine Hid.out ?_))
              refine Lib.hid ?_
              have HW := Lib.hid (((bself w9).alloc (Nat.le_refl _) (.cells (pvC 0 0 Z0) 24)).trans (hb10 w9.heap.size (Nat.le_refl _)))
              have HP10 := Lib.hid (HP9.out.below HW.out HP9.out.lt)
              have HB10 := Lib.hid (HB9.out.trans (HW.out.mono HB9.out.size))
              have HC10 := Lib.hid (show IsPv w10 w9.heap.size fam0 (x : Int) (firstZ z0 x) from hg10)
              clear hg10 hb10 ho10 HX hall HW HP9 HB9
              go_wp2_with (first | (refine load_pv rfl (.tmp 18) rfl rfl HC10.out ?_) | (refine load_pv rfl (.tmp 4) rfl rfl HP10.out ?_))
              refine (HCV.out _).mono ?_
              rintro e11 w11 ⟨rfl, hb11⟩
              have HP11 := Lib.hid (HP10.out.below hb11 HP10.out.lt)
              have HC11 := Lib.hid (HC10.out.below hb11 HC10.out.lt)
              have HB11 := Lib.hid (HB10.out.trans (hb11.mono HB10.out.size))
              clear hb11 HP10 HC10 HB10
              go_wp2_with (first | (refine load_pv rfl (.tmp 18) rfl rfl HC11.out ?_) | (refine load_pv rfl (.tmp 4) rfl rfl HP11.out ?_))
              refine (HCM.out _).mono ?_
              rintro e12 w12 ⟨rfl, hb12⟩
              have HP12 := Lib.hid (HP11.out.below hb12 HP11.out.lt)
              have HC12 := Lib.hid (HC11.out.below hb12 HC11.out.lt)
              have HB12 := Lib.hid (HB11.out.trans (hb12.mono HB11.out.size))
              clear hb12 HP11 HC11 HB11
              have g1 := HP12.out.len
              rcases hxx with hxx | hxx
              · have hk := cut_same (fam := fam0) (z := z0) hF0
                subst hxx
                rw [cmp1_eq hk]
                go_wp2
                go_ret
                exact ⟨rfl, HB12.out⟩
              · have hk := cut_lt (fam := fam0) hz0 hxx
                have hxn : ¬ (x : Int) = (l0 : Int) := by omega
                have hxe : ((x : Int) == (l0 : Int)) = false := beq_false_of_ne (show (x : Int) ≠ (l0 : Int) by omega)
                rw [cmp1_lt hk]
                go_wp2_with (first | (refine load_pv_w (by rfl) (.tmp 18) rfl rfl HC12.out ?_) | (refine load_pv_w (by rfl) (.tmp 4) rfl rfl HP12.out ?_) | (refine step_val (v := .bool false) (by rfl) (eql_is (fam := fam0) (len := (x : Int)) (fam' := fam0) (len' := (l0 : Int)) (z := firstZ z0 x) (z' := z0) false (by simp [hxn]) _ _ _ _ rfl (firstZ_bd hz0 x) hz0 rfl rfl _) ?_))
                go_ret
                exact ⟨rfl, HB12.out⟩
          · obtain rfl : c = true := ht rfl rfl
            cases d
            · clear ht hs
              have g0 := HP8.out.len
              go_wp2_with (first | (refine load_pv rfl (.tmp 4) rfl rfl HP8.out ?_))
              clear g0
              refine (cut_ok fam0 l0 x z0 _ hz0 hxl hF0.1).mono ?_
              rintro e9 w9 ⟨rfl, hb9⟩
              have HP9 := Lib.hid (HP8.out.below hb9 HP8.out.lt)
              have HB9 := Lib.hid (HB8.out.trans (hb9.mono HB8.out.size))
              clear hb9 HP8 HB8
              have HX := Lib.hid (IsPv.new w9 0 0 Z0)
              have hall := Lib.hid (all_pv fam0 (x : Int) (firstZ z0 x))
              go_wp2_with (first | (refine store_blk rfl (.tmp 18) (.tmp 108) (cells := pvC fam0 (x : Int) (firstZ z0 x)) rfl rfl rfl HX.out info_pv rfl hall.out ?_; intro w10 hg10 hb10 ho10; refine Hid.out ?_))
              refine Lib.hid ?_
              have HW := Lib.hid (((bself w9).alloc (Nat.le_refl _) (.cells (pvC 0 0 Z0) 24)).trans (hb10 w9.heap.size (Nat.le_refl _)))
              have HP10 := Lib.hid (HP9.out.below HW.out HP9.out.lt)
              have HB10 := Lib.hid (HB9.out.trans (HW.out.mono HB9.out.size))
              have HC10 := Lib.hid (show IsPv w10 w9.heap.size fam0 (x : Int) (firstZ z0 x) from hg10)
              clear hg10 hb10 ho10 HX hall HW HP9 HB9
              go_wp2_with (first | (refine load_pv rfl (.tmp 18) rfl rfl HC10.out ?_) | (refine load_pv rfl (.tmp 4) rfl rfl HP10.out ?_))
              refine (HCV.out _).mono ?_
              rintro e11 w11 ⟨rfl, hb11⟩
              have HP11 := Lib.hid (HP10.out.below hb11 HP10.out.lt)
              have HC11 := Lib.hid (HC10.out.below hb11 HC10.out.lt)
              have HB11 := Lib.hid (HB10.out.trans (hb11.mono HB10.out.size))
              clear hb11 HP10 HC10 HB10
              go_wp2_with (first | (refine load_pv rfl (.tmp 18) rfl rfl HC11.out ?_) | (refine load_pv rfl (.tmp 4) rfl rfl HP11.out ?_))
              refine (HCM.out _).mono ?_
              rintro e12 w12 ⟨rfl, hb12⟩
              have HP12 := Lib.hid (HP11.out.below hb12 HP11.out.lt)
              have HC12 := Lib.hid (HC11.out.below hb12 HC11.out.lt)
              have HB12 := Lib.hid (HB11.out.trans (hb12.mono HB11.out.size))
              clear hb12 HP11 HC11 HB11
              have g1 := HP12.out.len
              rcases hxx with hxx | hxx
              · have hk := cut_same (fam := fam0) (z := z0) hF0
                subst hxx
                rw [cmp1_eq hk]
                go_wp2
                go_ret
                exact ⟨rfl, HB12.out⟩
              · have hk := cut_lt (fam := fam0) hz0 hxx
                have hxn : ¬ (x : Int) = (l0 : Int) := by omega
                have hxe : ((x : Int) == (l0 : Int)) = false := beq_false_of_ne (show (x : Int) ≠ (l0 : Int) by omega)
                rw [cmp1_lt hk]
                go_wp2_with (first | (refine load_pv_w (by rfl) (.tmp 18) rfl rfl HC12.out ?_) | (refine load_pv_w (by rfl) (.tmp 4) rfl rfl HP12.out ?_) | (refine step_val (v := .bool false) (by rfl) (eql_is (fam := fam0) (len := (x : Int)) (fam' := fam0) (len' := (l0 : Int)) (z := firstZ z0 x) (z' := z0) false (by simp [hxn]) _ _ _ _ rfl (firstZ_bd hz0 x) hz0 rfl rfl _) ?_))
                go_ret
                exact ⟨rfl, HB12.out⟩
            · have HEQ := Lib.hid (show (!decide (fam0 = fam1 ∧ (l0 : Int) = len1 ∧ Same16 z0 z1)) = false by have := hs rfl rfl; simp [this])
              clear ht hs
              have g0 := HP8.out.len
              go_wp2_with (first | (refine load_pv_w (by rfl) (.tmp 4) rfl rfl HP8.out ?_) | (refine load_pv_w (by rfl) (.tmp 5) rfl rfl HQ8.out ?_) | (refine step_val (v := .bool false) (by rfl) (neq_is (fam := fam0) (len := (l0 : Int)) (fam' := fam1) (len' := len1) (z := z0) (z' := z1) false HEQ.out _ _ _ _ rfl hz0 hz1 rfl rfl _) ?_))
              clear g0
              refine (cut_ok fam0 l0 x z0 _ hz0 hxl hF0.1).mono ?_
              rintro e9 w9 ⟨rfl, hb9⟩
              have HP9 := Lib.hid (HP8.out.below hb9 HP8.out.lt)
              have HB9 := Lib.hid (HB8.out.trans (hb9.mono HB8.out.size))
              clear hb9 HP8 HB8
              have HX := Lib.hid (IsPv.new w9 0 0 Z0)
              have hall := Lib.hid (all_pv fam0 (x : Int) (firstZ z0 x))
              go_wp2_with (first | (refine store_blk rfl (.tmp 18) (.tmp 108) (cells := pvC fam0 (x : Int) (firstZ z0 x)) rfl rfl rfl HX.out info_pv rfl hall.out ?_; intro w10 hg10 hb10 ho10; refine Hid.out ?_))
              refine Lib.hid ?_
              have HW := Lib.hid (((bself w9).alloc (Nat.le_refl _) (.cells (pvC 0 0 Z0) 24)).trans (hb10 w9.heap.size (Nat.le_refl _)))
              have HP10 := Lib.hid (HP9.out.below HW.out HP9.out.lt)
              have HB10 := Lib.hid (HB9.out.trans (HW.out.mono HB9.out.size))
              have HC10 := Lib.hid (show IsPv w10 w9.heap.size fam0 (x : Int) (firstZ z0 x) from hg10)
              clear hg10 hb10 ho10 HX hall HW HP9 HB9
              go_wp2_with (first | (refine load_pv rfl (.tmp 18) rfl rfl HC10.out ?_) | (refine load_pv rfl (.tmp 4) rfl rfl HP10.out ?_))
              refine (HCV.out _).mono ?_
              rintro e11 w11 ⟨rfl, hb11⟩
              have HP11 := Lib.hid (HP10.out.below hb11 HP10.out.lt)
              have HC11 := Lib.hid (HC10.out.below hb11 HC10.out.lt)
              have HB11 := Lib.hid (HB10.out.trans (hb11.mono HB10.out.size))
              clear hb11 HP10 HC10 HB10
              go_wp2_with (first | (refine load_pv rfl (.tmp 18) rfl rfl HC11.out ?_) | (refine load_pv rfl (.tmp 4) rfl rfl HP11.out ?_))
              refine (HCM.out _).mono ?_
              rintro e12 w12 ⟨rfl, hb12⟩
              have HP12 := Lib.hid (HP11.out.below hb12 HP11.out.lt)
              have HC12 := Lib.hid (HC11.out.below hb12 HC11.out.lt)
              have HB12 := Lib.hid (HB11.out.trans (hb12.mono HB11.out.size))
              clear hb12 HP11 HC11 HB11
              have g1 := HP12.out.len
              rcases hxx with hxx | hxx
              · have hk := cut_same (fam := fam0) (z := z0) hF0
                subst hxx
                rw [cmp1_eq hk]
                go_wp2
                go_ret
                exact ⟨rfl, HB12.out⟩
              · have hk := cut_lt (fam := fam0) hz0 hxx
                have hxn : ¬ (x : Int) = (l0 : Int) := by omega
                have hxe : ((x : Int) == (l0 : Int)) = false := beq_false_of_ne (show (x : Int) ≠ (l0 : Int) by omega)
                rw [cmp1_lt hk]
                go_wp2_with (first | (refine load_pv_w (by rfl) (.tmp 18) rfl rfl HC12.out ?_) | (refine load_pv_w (by rfl) (.tmp 4) rfl rfl HP12.out ?_) | (refine step_val (v := .bool false) (by rfl) (eql_is (fam := fam0) (len := (x : Int)) (fam' := fam0) (len' := (l0 : Int)) (z := firstZ z0 x) (z' := z0) false (by simp [hxn]) _ _ _ _ rfl (firstZ_bd hz0 x) hz0 rfl rfl _) ?_))
                go_ret
                exact ⟨rfl, HB12.out⟩
      · rw [show checkI fam2 len2 z2 = 3 by unfold checkI; rw [if_neg hF2]] at HK2
        go_wp2_with (refine load_pv rfl (.tmp 4) rfl rfl HP1.out ?_)
        refine (HK0.out _).mono ?_
        rintro e2 w2 ⟨rfl, hb2⟩
        have HP2 := Lib.hid (HP1.out.below hb2 HP1.out.lt)
        have HQ2 := Lib.hid (HQ1.out.below hb2 HQ1.out.lt)
        have HR2 := Lib.hid (HR1.out.below hb2 HR1.out.lt)
        have HB2 := Lib.hid (HB1.out.trans (hb2.mono HB1.out.size))
        clear hb2 HP1 HQ1 HR1 HB1
        go_wp2_with (refine load_pv_w (by rfl) (.tmp 5) rfl rfl HQ2.out ?_)
        refine (HK1.out _).mono ?_
        rintro e3 w3 ⟨rfl, hb3⟩
        have HP3 := Lib.hid (HP2.out.below hb3 HP2.out.lt)
        have HQ3 := Lib.hid (HQ2.out.below hb3 HQ2.out.lt)
        have HR3 := Lib.hid (HR2.out.below hb3 HR2.out.lt)
        have HB3 := Lib.hid (HB2.out.trans (hb3.mono HB2.out.size))
        clear hb3 HP2 HQ2 HR2 HB2
        go_wp2_with (refine load_pv_w (by rfl) (.tmp 6) rfl rfl HR3.out ?_)
        refine (HK2.out _).mono ?_
        rintro e4 w4 ⟨rfl, hb4⟩
        have HP4 := Lib.hid (HP3.out.below hb4 HP3.out.lt)
        have HQ4 := Lib.hid (HQ3.out.below hb4 HQ3.out.lt)
        have HR4 := Lib.hid (HR3.out.below hb4 HR3.out.lt)
        have HB4 := Lib.hid (HB3.out.trans (hb4.mono HB3.out.size))
        clear hb4 HP3 HQ3 HR3 HB3
        go_wp2
        go_ret
        exact ⟨rfl, HB4.out⟩
    · rw [show checkI fam1 len1 z1 = 3 by unfold checkI; rw [if_neg hF1]] at HK1
      go_wp2_with (refine load_pv rfl (.tmp 4) rfl rfl HP1.out ?_)
      refine (HK0.out _).mono ?_
      rintro e2 w2 ⟨rfl, hb2⟩
      have HP2 := Lib.hid (HP1.out.below hb2 HP1.out.lt)
      have HQ2 := Lib.hid (HQ1.out.below hb2 HQ1.out.lt)
      have HR2 := Lib.hid (HR1.out.below hb2 HR1.out.lt)
      have HB2 := Lib.hid (HB1.out.trans (hb2.mono HB1.out.size))
      clear hb2 HP1 HQ1 HR1 HB1
      go_wp2_with (refine load_pv_w (by rfl) (.tmp 5) rfl rfl HQ2.out ?_)
      refine (HK1.out _).mono ?_
      rintro e3 w3 ⟨rfl, hb3⟩
      have HP3 := Lib.hid (HP2.out.below hb3 HP2.out.lt)
      have HQ3 := Lib.hid (HQ2.out.below hb3 HQ2.out.lt)
      have HR3 := Lib.hid (HR2.out.below hb3 HR2.out.lt)
      have HB3 := Lib.hid (HB2.out.trans (hb3.mono HB2.out.size))
      clear hb3 HP2 HQ2 HR2 HB2
      go_wp2
      go_ret
      exact ⟨rfl, HB3.out⟩
  · rw [show checkI fam0 len0 z0 = 3 by unfold checkI; rw [if_neg hF0]] at HK0
    go_wp2_with (refine load_pv rfl (.tmp 4) rfl rfl HP1.out ?_)
    refine (HK0.out _).mono ?_
    rintro e2 w2 ⟨rfl, hb2⟩
    have HP2 := Lib.hid (HP1.out.below hb2 HP1.out.lt)
    have HQ2 := Lib.hid (HQ1.out.below hb2 HQ1.out.lt)
    have HR2 := Lib.hid (HR1.out.below hb2 HR1.out.lt)
    have HB2 := Lib.hid (HB1.out.trans (hb2.mono HB1.out.size))
    clear hb2 HP1 HQ1 HR1 HB1
    go_wp2
    go_ret
    exact ⟨rfl, HB2.out⟩
end Go.Proofs.YtnllhedmkjmaiaaDoor
