/- The walk of PrefixCuts. Conditions: the library's variables that the example reads lie as the text lays them. -/
import Derived.Test.YtnllhedmkjmaiaaDoorPNeq
import Derived.ProofKit
import Derived.OpenShut
namespace Go.Proofs.YtnllhedmkjmaiaaDoor
open Go.RowKit
set_option linter.unusedVariables false

set_option maxHeartbeats 8000000 in
set_option maxRecDepth 100000 in
theorem walkPrefixCuts (fam0 len0 : Int) (z0 : Nat → Int) (hf0 : 0 ≤ fam0 ∧ fam0 ≤ 255) (hl0 : -9223372036854775808 ≤ len0 ∧ len0 ≤ 9223372036854775807) (hz0 : Bytes z0) (fam1 len1 : Int) (z1 : Nat → Int) (hf1 : 0 ≤ fam1 ∧ fam1 ≤ 255) (hl1 : -9223372036854775808 ≤ len1 ∧ len1 ≤ 9223372036854775807) (hz1 : Bytes z1)
    (a2 : Int) (wa : (Lit.int .u8 a2).wf = true) (a3 : Int) (wb : (Lit.int .u8 a3).wf = true) (w : World) (m : Int) (hL : Lays w m) :
    Calls Tryd.prog 8 #[.agg (pvC fam0 len0 z0), .agg (pvC fam1 len1 z1), .int .u8 a2, .int .u8 a3] w fun e w' => e = .returned (.bool true) ∧ Below w.heap.size w w' := by
  have HL := Lib.hid hL
  have HP := Lib.hid (v2_p fam0 len0 z0 fam1 len1 z1 w)
  have HQ := Lib.hid (v2_q fam0 len0 z0 fam1 len1 z1 w)
  have HB := Lib.hid (v2_below fam0 len0 z0 fam1 len1 z1 w)
  have HK0 := Lib.hid (fun W => check_any fam0 len0 z0 W hz0)
  have HK1 := Lib.hid (fun W => check_any fam1 len1 z1 W hz1)
  have ha := bounds_u8 wa
  have hb := bounds_u8 wb
  clear hL wa wb hf0 hf1 hl0 hl1
  go_enter Tryd.func8, Tryd.ntmps8
  go_wp2_with fail
  refine (awake_any m _ (HL.out.below HB.out)).mono ?_
  rintro e1 w1 ⟨rfl, hb1⟩
  have HP1 := Lib.hid (HP.out.below hb1 HP.out.lt)
  have HQ1 := Lib.hid (HQ.out.below hb1 HQ.out.lt)
  have HB1 := Lib.hid (HB.out.trans (hb1.mono HB.out.size))
  clear hb1 HP HQ HB
  by_cases hF0 : Form fam0 len0 z0
  · rw [show checkI fam0 len0 z0 = 0 by unfold checkI; rw [if_pos hF0]] at HK0
    by_cases hF1 : Form fam1 len1 z1
    · rw [show checkI fam1 len1 z1 = 0 by unfold checkI; rw [if_pos hF1]] at HK1
      obtain ⟨l0, rfl⟩ : ∃ l : Nat, len0 = l := ⟨len0.toNat, by have := sized_le hF0.1; omega⟩
      obtain ⟨l1, rfl⟩ : ∃ l : Nat, len1 = l := ⟨len1.toNat, by have := sized_le hF1.1; omega⟩
      obtain ⟨a, rfl⟩ : ∃ l : Nat, a2 = l := ⟨a2.toNat, by omega⟩
      obtain ⟨b, rfl⟩ : ∃ l : Nat, a3 = l := ⟨a3.toNat, by omega⟩
      have hl0 := (sized_le hF0.1).2
      have hl1 := (sized_le hF1.1).2
      obtain ⟨x, hx0⟩ : ∃ x, x = a % (l0 + 1) := ⟨_, rfl⟩
      have hxl : x ≤ l0 := by rw [hx0]; have := Nat.mod_lt a (show 0 < l0 + 1 by omega); omega
      have hx : (a : Int).tmod ((l0 : Int) + 1) = (x : Int) := by rw [hx0]; exact rem_nat a l0
      obtain ⟨y, hy0⟩ : ∃ y, y = b % (x + 1) := ⟨_, rfl⟩
      have hyx : y ≤ x := by rw [hy0]; have := Nat.mod_lt b (show 0 < x + 1 by omega); omega
      have hy : (b : Int).tmod ((x : Int) + 1) = (y : Int) := by rw [hy0]; exact rem_nat b x
      have hne : ¬ ((l0 : Int) + 1 = 0) := by omega
      have hne' : ¬ ((x : Int) + 1 = 0) := by omega
      have HTW := Lib.hid (first_first z0 hz0 x y hyx)
      clear hx0 hy0
      go_wp2_with (refine load_pv rfl (.tmp 4) rfl rfl HP1.out ?_)
      refine (HK0.out _).mono ?_
      rintro e2 w2 ⟨rfl, hb2⟩
      have HP2 := Lib.hid (HP1.out.below hb2 HP1.out.lt)
      have HQ2 := Lib.hid (HQ1.out.below hb2 HQ1.out.lt)
      have HB2 := Lib.hid (HB1.out.trans (hb2.mono HB1.out.size))
      clear hb2 HP1 HQ1 HB1
      go_wp2_with (refine load_pv_w (by rfl) (.tmp 5) rfl rfl HQ2.out ?_)
      refine (HK1.out _).mono ?_
      rintro e3 w3 ⟨rfl, hb3⟩
      have HP3 := Lib.hid (HP2.out.below hb3 HP2.out.lt)
      have HQ3 := Lib.hid (HQ2.out.below hb3 HQ2.out.lt)
      have HB3 := Lib.hid (HB2.out.trans (hb3.mono HB2.out.size))
      clear hb3 HP2 HQ2 HB2
      have g0 := HP3.out.len
      go_wp2_with (first | (refine load_pv rfl (.tmp 4) rfl rfl HP3.out ?_))
      clear g0
      refine (cut_ok fam0 l0 x z0 _ hz0 hxl hF0.1).mono ?_
      rintro e4 w4 ⟨rfl, hb4⟩
      have HP4 := Lib.hid (HP3.out.below hb4 HP3.out.lt)
      have HQ4 := Lib.hid (HQ3.out.below hb4 HQ3.out.lt)
      have HB4 := Lib.hid (HB3.out.trans (hb4.mono HB3.out.size))
      clear hb4 HP3 HQ3 HB3
      have HX := Lib.hid (IsPv.new w4 0 0 Z0)
      have hall := Lib.hid (all_pv fam0 (x : Int) (firstZ z0 x))
      go_wp2_with (first | (refine store_blk rfl (.tmp 10) (.tmp 41) (cells := pvC fam0 (x : Int) (firstZ z0 x)) rfl rfl rfl HX.out info_pv rfl hall.out ?_; intro w5 hg5 hb5 ho5; refine Hid.out ?_))
      refine Lib.hid ?_
      have HW := Lib.hid (((bself w4).alloc (Nat.le_refl _) (.cells (pvC 0 0 Z0) 24)).trans (hb5 w4.heap.size (Nat.le_refl _)))
      have HP5 := Lib.hid (HP4.out.below HW.out HP4.out.lt)
      have HQ5 := Lib.hid (HQ4.out.below HW.out HQ4.out.lt)
      have HB5 := Lib.hid (HB4.out.trans (HW.out.mono HB4.out.size))
      have HC5 := Lib.hid (show IsPv w5 w4.heap.size fam0 (x : Int) (firstZ z0 x) from hg5)
      clear hg5 hb5 ho5 HX hall HW HP4 HQ4 HB4
      go_wp2_with (first | (refine load_pv rfl (.tmp 10) rfl rfl HC5.out ?_))
      refine (cut_ok fam0 x y (firstZ z0 x) _ (firstZ_bd hz0 x) hyx (sized_down hF0.1 hxl)).mono ?_
      rintro e6 w6 ⟨rfl, hb6⟩
      have HP6 := Lib.hid (HP5.out.below hb6 HP5.out.lt)
      have HQ6 := Lib.hid (HQ5.out.below hb6 HQ5.out.lt)
      have HC6 := Lib.hid (HC5.out.below hb6 HC5.out.lt)
      have HB6 := Lib.hid (HB5.out.trans (hb6.mono HB5.out.size))
      clear hb6 HP5 HQ5 HC5 HB5
      have HX := Lib.hid (IsPv.new w6 0 0 Z0)
      have hall := Lib.hid (all_pv fam0 (y : Int) (firstZ (firstZ z0 x) y))
      go_wp2_with (first | (refine store_blk rfl (.tmp 13) (.tmp 52) (cells := pvC fam0 (y : Int) (firstZ (firstZ z0 x) y)) rfl rfl rfl HX.out info_pv rfl hall.out ?_; intro w7 hg7 hb7 ho7; refine Hid.out ?_))
      refine Lib.hid ?_
      have HW := Lib.hid (((bself w6).alloc (Nat.le_refl _) (.cells (pvC 0 0 Z0) 24)).trans (hb7 w6.heap.size (Nat.le_refl _)))
      have HP7 := Lib.hid (HP6.out.below HW.out HP6.out.lt)
      have HQ7 := Lib.hid (HQ6.out.below HW.out HQ6.out.lt)
      have HC7 := Lib.hid (HC6.out.below HW.out HC6.out.lt)
      have HB7 := Lib.hid (HB6.out.trans (HW.out.mono HB6.out.size))
      have HD7 := Lib.hid (show IsPv w7 w6.heap.size fam0 (y : Int) (firstZ (firstZ z0 x) y) from hg7)
      clear hg7 hb7 ho7 HX hall HW HP6 HQ6 HC6 HB6
      go_wp2_with (first | (refine load_pv rfl (.tmp 4) rfl rfl HP7.out ?_))
      refine (cut_ok fam0 l0 y z0 _ hz0 (Nat.le_trans hyx hxl) hF0.1).mono ?_
      rintro e8 w8 ⟨rfl, hb8⟩
      have HP8 := Lib.hid (HP7.out.below hb8 HP7.out.lt)
      have HQ8 := Lib.hid (HQ7.out.below hb8 HQ7.out.lt)
      have HC8 := Lib.hid (HC7.out.below hb8 HC7.out.lt)
      have HD8 := Lib.hid (HD7.out.below hb8 HD7.out.lt)
      have HB8 := Lib.hid (HB7.out.trans (hb8.mono HB7.out.size))
      clear hb8 HP7 HQ7 HC7 HD7 HB7
      have HX := Lib.hid (IsPv.new w8 0 0 Z0)
      have hall := Lib.hid (all_pv fam0 (y : Int) (firstZ z0 y))
      go_wp2_with (first | (refine store_blk rfl (.tmp 15) (.tmp 58) (cells := pvC fam0 (y : Int) (firstZ z0 y)) rfl rfl rfl HX.out info_pv rfl hall.out ?_; intro w9 hg9 hb9 ho9; refine Hid.out ?_))
      refine Lib.hid ?_
      have HW := Lib.hid (((bself w8).alloc (Nat.le_refl _) (.cells (pvC 0 0 Z0) 24)).trans (hb9 w8.heap.size (Nat.le_refl _)))
      have HP9 := Lib.hid (HP8.out.below HW.out HP8.out.lt)
      have HQ9 := Lib.hid (HQ8.out.below HW.out HQ8.out.lt)
      have HC9 := Lib.hid (HC8.out.below HW.out HC8.out.lt)
      have HD9 := Lib.hid (HD8.out.below HW.out HD8.out.lt)
      have HB9 := Lib.hid (HB8.out.trans (HW.out.mono HB8.out.size))
      have HE9 := Lib.hid (show IsPv w9 w8.heap.size fam0 (y : Int) (firstZ z0 y) from hg9)
      clear hg9 hb9 ho9 HX hall HW HP8 HQ8 HC8 HD8 HB8
      by_cases hn : fam0 = fam1
      · subst hn
        rcases Nat.lt_or_ge l1 l0 with hn | hn
        · have hn : (l1 : Int) < l0 := by omega
          go_wp2_with (first | (refine load_pv rfl (.tmp 4) rfl rfl HP9.out ?_) | (refine load_pv rfl (.tmp 5) rfl rfl HQ9.out ?_))
          refine (covers_len fam0 l0 l1 z0 z1 _ hz0 hz1 ⟨hF0, hF1⟩ hn).mono ?_
          rintro e10 w10 ⟨rfl, hb10⟩
          have HP10 := Lib.hid (HP9.out.below hb10 HP9.out.lt)
          have HQ10 := Lib.hid (HQ9.out.below hb10 HQ9.out.lt)
          have HC10 := Lib.hid (HC9.out.below hb10 HC9.out.lt)
          have HD10 := Lib.hid (HD9.out.below hb10 HD9.out.lt)
          have HE10 := Lib.hid (HE9.out.below hb10 HE9.out.lt)
          have HB10 := Lib.hid (HB9.out.trans (hb10.mono HB9.out.size))
          clear hb10 HP9 HQ9 HC9 HD9 HE9 HB9
          have f0 := HP10.out.fam
          have f1 := HP10.out.len
          have f2 := HQ10.out.fam
          have f3 := HQ10.out.len
          go_wp2_with (first | (refine load_pv_w (by rfl) (.tmp 13) rfl rfl HD10.out ?_) | (refine load_pv_w (by rfl) (.tmp 15) rfl rfl HE10.out ?_) | (refine step_val (v := .bool false) (by rfl) (neq_is (fam := fam0) (len := (y : Int)) (fam' := fam0) (len' := (y : Int)) (z := firstZ (firstZ z0 x) y) (z' := firstZ z0 y) false (by simp [HTW.out]) _ _ _ _ rfl (firstZ_bd (firstZ_bd hz0 x) y) (firstZ_bd hz0 y) rfl rfl _) ?_))
          go_ret
          exact ⟨rfl, HB10.out⟩
        · have hn : (l0 : Int) ≤ l1 := by omega
          have hnn : ¬ (l1 : Int) < l0 := by omega
          by_cases hS : Same16 (firstZ z1 l0) z0
          · have HSW := Lib.hid hS
            go_wp2_with (first | (refine load_pv rfl (.tmp 4) rfl rfl HP9.out ?_) | (refine load_pv rfl (.tmp 5) rfl rfl HQ9.out ?_))
            refine (covers_yes fam0 l0 l1 z0 z1 _ hz0 hz1 ⟨hF0, hF1⟩ hn hS).mono ?_
            rintro e10 w10 ⟨rfl, hb10⟩
            have HP10 := Lib.hid (HP9.out.below hb10 HP9.out.lt)
            have HQ10 := Lib.hid (HQ9.out.below hb10 HQ9.out.lt)
            have HC10 := Lib.hid (HC9.out.below hb10 HC9.out.lt)
            have HD10 := Lib.hid (HD9.out.below hb10 HD9.out.lt)
            have HE10 := Lib.hid (HE9.out.below hb10 HE9.out.lt)
            have HB10 := Lib.hid (HB9.out.trans (hb10.mono HB9.out.size))
            clear hb10 HP9 HQ9 HC9 HD9 HE9 HB9
            have f0 := HP10.out.fam
            have f1 := HP10.out.len
            have f2 := HQ10.out.fam
            have f3 := HQ10.out.len
            go_wp2_with (first | (refine load_pv_w (by rfl) (.tmp 13) rfl rfl HD10.out ?_) | (refine load_pv_w (by rfl) (.tmp 15) rfl rfl HE10.out ?_) | (refine step_val (v := .bool false) (by rfl) (neq_is (fam := fam0) (len := (y : Int)) (fam' := fam0) (len' := (y : Int)) (z := firstZ (firstZ z0 x) y) (z' := firstZ z0 y) false (by simp [HTW.out]) _ _ _ _ rfl (firstZ_bd (firstZ_bd hz0 x) y) (firstZ_bd hz0 y) rfl rfl _) ?_) | (refine load_pv rfl (.tmp 5) rfl rfl HQ10.out ?_))
            clear f0 f1 f2 f3
            refine (cut_ok fam0 l1 l0 z1 _ hz1 (by omega) hF1.1).mono ?_
            rintro e11 w11 ⟨rfl, hb11⟩
            have HP11 := Lib.hid (HP10.out.below hb11 HP10.out.lt)
            have HQ11 := Lib.hid (HQ10.out.below hb11 HQ10.out.lt)
            have HB11 := Lib.hid (HB10.out.trans (hb11.mono HB10.out.size))
            clear hb11 HP10 HQ10 HB10
            have HX := Lib.hid (IsPv.new w11 0 0 Z0)
            have hall := Lib.hid (all_pv fam0 (l0 : Int) (firstZ z1 l0))
            go_wp2_with (first | (refine store_blk rfl (.tmp 19) (.tmp 104) (cells := pvC fam0 (l0 : Int) (firstZ z1 l0)) rfl rfl rfl HX.out info_pv rfl hall.out ?_; intro w12 hg12 hb12 ho12; refine Hid.out ?_))
            refine Lib.hid ?_
            have HW := Lib.hid (((bself w11).alloc (Nat.le_refl _) (.cells (pvC 0 0 Z0) 24)).trans (hb12 w11.heap.size (Nat.le_refl _)))
            have HP12 := Lib.hid (HP11.out.below HW.out HP11.out.lt)
            have HQ12 := Lib.hid (HQ11.out.below HW.out HQ11.out.lt)
            have HB12 := Lib.hid (HB11.out.trans (HW.out.mono HB11.out.size))
            have HG12 := Lib.hid (show IsPv w12 w11.heap.size fam0 (l0 : Int) (firstZ z1 l0) from hg12)
            clear hg12 hb12 ho12 HX hall HW HP11 HQ11 HB11
            go_wp2_with (first | (refine load_pv_w (by rfl) (.tmp 19) rfl rfl HG12.out ?_) | (refine load_pv_w (by rfl) (.tmp 4) rfl rfl HP12.out ?_) | (refine step_val (v := .bool true) (by rfl) (eql_is (fam := fam0) (len := (l0 : Int)) (fam' := fam0) (len' := (l0 : Int)) (z := firstZ z1 l0) (z' := z0) true (by simp [HSW.out]) _ _ _ _ rfl (firstZ_bd hz1 l0) hz0 rfl rfl _) ?_))
            go_ret
            exact ⟨rfl, HB12.out⟩
          · have HSW := Lib.hid hS
            go_wp2_with (first | (refine load_pv rfl (.tmp 4) rfl rfl HP9.out ?_) | (refine load_pv rfl (.tmp 5) rfl rfl HQ9.out ?_))
            refine (covers_no fam0 l0 l1 z0 z1 _ hz0 hz1 ⟨hF0, hF1⟩ hn hS).mono ?_
            rintro e10 w10 ⟨rfl, hb10⟩
            have HP10 := Lib.hid (HP9.out.below hb10 HP9.out.lt)
            have HQ10 := Lib.hid (HQ9.out.below hb10 HQ9.out.lt)
            have HC10 := Lib.hid (HC9.out.below hb10 HC9.out.lt)
            have HD10 := Lib.hid (HD9.out.below hb10 HD9.out.lt)
            have HE10 := Lib.hid (HE9.out.below hb10 HE9.out.lt)
            have HB10 := Lib.hid (HB9.out.trans (hb10.mono HB9.out.size))
            clear hb10 HP9 HQ9 HC9 HD9 HE9 HB9
            have f0 := HP10.out.fam
            have f1 := HP10.out.len
            have f2 := HQ10.out.fam
            have f3 := HQ10.out.len
            go_wp2_with (first | (refine load_pv_w (by rfl) (.tmp 13) rfl rfl HD10.out ?_) | (refine load_pv_w (by rfl) (.tmp 15) rfl rfl HE10.out ?_) | (refine step_val (v := .bool false) (by rfl) (neq_is (fam := fam0) (len := (y : Int)) (fam' := fam0) (len' := (y : Int)) (z := firstZ (firstZ z0 x) y) (z' := firstZ z0 y) false (by simp [HTW.out]) _ _ _ _ rfl (firstZ_bd (firstZ_bd hz0 x) y) (firstZ_bd hz0 y) rfl rfl _) ?_) | (refine load_pv rfl (.tmp 5) rfl rfl HQ10.out ?_))
            clear f0 f1 f2 f3
            refine (cut_ok fam0 l1 l0 z1 _ hz1 (by omega) hF1.1).mono ?_
            rintro e11 w11 ⟨rfl, hb11⟩
            have HP11 := Lib.hid (HP10.out.below hb11 HP10.out.lt)
            have HQ11 := Lib.hid (HQ10.out.below hb11 HQ10.out.lt)
            have HB11 := Lib.hid (HB10.out.trans (hb11.mono HB10.out.size))
            clear hb11 HP10 HQ10 HB10
            have HX := Lib.hid (IsPv.new w11 0 0 Z0)
            have hall := Lib.hid (all_pv fam0 (l0 : Int) (firstZ z1 l0))
            go_wp2_with (first | (refine store_blk rfl (.tmp 19) (.tmp 104) (cells := pvC fam0 (l0 : Int) (firstZ z1 l0)) rfl rfl rfl HX.out info_pv rfl hall.out ?_; intro w12 hg12 hb12 ho12; refine Hid.out ?_))
            refine Lib.hid ?_
            have HW := Lib.hid (((bself w11).alloc (Nat.le_refl _) (.cells (pvC 0 0 Z0) 24)).trans (hb12 w11.heap.size (Nat.le_refl _)))
            have HP12 := Lib.hid (HP11.out.below HW.out HP11.out.lt)
            have HQ12 := Lib.hid (HQ11.out.below HW.out HQ11.out.lt)
            have HB12 := Lib.hid (HB11.out.trans (HW.out.mono HB11.out.size))
            have HG12 := Lib.hid (show IsPv w12 w11.heap.size fam0 (l0 : Int) (firstZ z1 l0) from hg12)
            clear hg12 hb12 ho12 HX hall HW HP11 HQ11 HB11
            go_wp2_with (first | (refine load_pv_w (by rfl) (.tmp 19) rfl rfl HG12.out ?_) | (refine load_pv_w (by rfl) (.tmp 4) rfl rfl HP12.out ?_) | (refine step_val (v := .bool false) (by rfl) (eql_is (fam := fam0) (len := (l0 : Int)) (fam' := fam0) (len' := (l0 : Int)) (z := firstZ z1 l0) (z' := z0) false (by simp [HSW.out]) _ _ _ _ rfl (firstZ_bd hz1 l0) hz0 rfl rfl _) ?_))
            go_ret
            exact ⟨rfl, HB12.out⟩
      · rcases Nat.lt_or_ge l1 l0 with hlt | hlt
        · have hlt : (l1 : Int) < l0 := by omega
          go_wp2_with (first | (refine load_pv rfl (.tmp 4) rfl rfl HP9.out ?_) | (refine load_pv rfl (.tmp 5) rfl rfl HQ9.out ?_))
          refine (covers_fam fam0 l0 fam1 l1 z0 z1 _ hz0 hz1 ⟨hF0, hF1⟩ hn).mono ?_
          rintro e10 w10 ⟨rfl, hb10⟩
          have HP10 := Lib.hid (HP9.out.below hb10 HP9.out.lt)
          have HQ10 := Lib.hid (HQ9.out.below hb10 HQ9.out.lt)
          have HC10 := Lib.hid (HC9.out.below hb10 HC9.out.lt)
          have HD10 := Lib.hid (HD9.out.below hb10 HD9.out.lt)
          have HE10 := Lib.hid (HE9.out.below hb10 HE9.out.lt)
          have HB10 := Lib.hid (HB9.out.trans (hb10.mono HB9.out.size))
          clear hb10 HP9 HQ9 HC9 HD9 HE9 HB9
          have f0 := HP10.out.fam
          have f1 := HP10.out.len
          have f2 := HQ10.out.fam
          have f3 := HQ10.out.len
          have hbn : (fam0 != fam1) = true := by simpa using hn
          go_wp2_with (first | (refine load_pv_w (by rfl) (.tmp 13) rfl rfl HD10.out ?_) | (refine load_pv_w (by rfl) (.tmp 15) rfl rfl HE10.out ?_) | (refine step_val (v := .bool false) (by rfl) (neq_is (fam := fam0) (len := (y : Int)) (fam' := fam0) (len' := (y : Int)) (z := firstZ (firstZ z0 x) y) (z' := firstZ z0 y) false (by simp [HTW.out]) _ _ _ _ rfl (firstZ_bd (firstZ_bd hz0 x) y) (firstZ_bd hz0 y) rfl rfl _) ?_))
          go_ret
          exact ⟨rfl, HB10.out⟩
        · have hlt : ¬ (l1 : Int) < l0 := by omega
          go_wp2_with (first | (refine load_pv rfl (.tmp 4) rfl rfl HP9.out ?_) | (refine load_pv rfl (.tmp 5) rfl rfl HQ9.out ?_))
          refine (covers_fam fam0 l0 fam1 l1 z0 z1 _ hz0 hz1 ⟨hF0, hF1⟩ hn).mono ?_
          rintro e10 w10 ⟨rfl, hb10⟩
          have HP10 := Lib.hid (HP9.out.below hb10 HP9.out.lt)
          have HQ10 := Lib.hid (HQ9.out.below hb10 HQ9.out.lt)
          have HC10 := Lib.hid (HC9.out.below hb10 HC9.out.lt)
          have HD10 := Lib.hid (HD9.out.below hb10 HD9.out.lt)
          have HE10 := Lib.hid (HE9.out.below hb10 HE9.out.lt)
          have HB10 := Lib.hid (HB9.out.trans (hb10.mono HB9.out.size))
          clear hb10 HP9 HQ9 HC9 HD9 HE9 HB9
          have f0 := HP10.out.fam
          have f1 := HP10.out.len
          have f2 := HQ10.out.fam
          have f3 := HQ10.out.len
          have hbn : (fam0 != fam1) = true := by simpa using hn
          go_wp2_with (first | (refine load_pv_w (by rfl) (.tmp 13) rfl rfl HD10.out ?_) | (refine load_pv_w (by rfl) (.tmp 15) rfl rfl HE10.out ?_) | (refine step_val (v := .bool false) (by rfl) (neq_is (fam := fam0) (len := (y : Int)) (fam' := fam0) (len' := (y : Int)) (z := firstZ (firstZ z0 x) y) (z' := firstZ z0 y) false (by simp [HTW.out]) _ _ _ _ rfl (firstZ_bd (firstZ_bd hz0 x) y) (firstZ_bd hz0 y) rfl rfl _) ?_))
          go_ret
          exact ⟨rfl, HB10.out⟩
    · rw [show checkI fam1 len1 z1 = 3 by unfold checkI; rw [if_neg hF1]] at HK1
      go_wp2_with (refine load_pv rfl (.tmp 4) rfl rfl HP1.out ?_)
      refine (HK0.out _).mono ?_
      rintro e2 w2 ⟨rfl, hb2⟩
      have HP2 := Lib.hid (HP1.out.below hb2 HP1.out.lt)
      have HQ2 := Lib.hid (HQ1.out.below hb2 HQ1.out.lt)
      have HB2 := Lib.hid (HB1.out.trans (hb2.mono HB1.out.size))
      clear hb2 HP1 HQ1 HB1
      go_wp2_with (refine load_pv_w (by rfl) (.tmp 5) rfl rfl HQ2.out ?_)
      refine (HK1.out _).mono ?_
      rintro e3 w3 ⟨rfl, hb3⟩
      have HP3 := Lib.hid (HP2.out.below hb3 HP2.out.lt)
      have HQ3 := Lib.hid (HQ2.out.below hb3 HQ2.out.lt)
      have HB3 := Lib.hid (HB2.out.trans (hb3.mono HB2.out.size))
      clear hb3 HP2 HQ2 HB2
      go_wp2
      go_ret
      exact ⟨rfl, HB3.out⟩
  · rw [show checkI fam0 len0 z0 = 3 by unfold checkI; rw [if_neg hF0]] at HK0
    go_wp2_with (refine load_pv rfl (.tmp 4) rfl rfl HP1.out ?_)
    refine (HK0.out _).mono ?_
    rintro e2 w2 ⟨rfl, hb2⟩
    have HP2 := Lib.hid (HP1.out.below hb2 HP1.out.lt)
    have HQ2 := Lib.hid (HQ1.out.below hb2 HQ1.out.lt)
    have HB2 := Lib.hid (HB1.out.trans (hb2.mono HB1.out.size))
    clear hb2 HP1 HQ1 HB1
    go_wp2
    go_ret
    exact ⟨rfl, HB2.out⟩
end Go.Proofs.YtnllhedmkjmaiaaDoor
