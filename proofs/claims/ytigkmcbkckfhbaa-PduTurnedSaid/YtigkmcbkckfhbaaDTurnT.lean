/- PduTurned, many TLVs. Each theorem states its conditions. -/
import Derived.Test.YtigkmcbkckfhbaaDTm
namespace Go.Proofs.Ytigkmcbkckfhbaa
open Go.RowKit
set_option linter.unusedVariables false

set_option maxHeartbeats 8000000 in
set_option maxRecDepth 100000 in
theorem turn_tall (p : Pd) (L : Nat → It) (at_ by_ : Int) (w : World) (hip : InP w p L) (ha0 : 0 ≤ at_ ∧ at_ ≤ 65535) (hb0 : 0 ≤ by_ ∧ by_ ≤ 255) (hby0 : by_ ≠ 0) (hl : 5 < p.m) : Calls Try.prog 7 #[.agg (pdC p), .int .u16 at_, .int .u8 by_] w fun e w' => e = .returned (.bool true) ∧ Below w.heap.size w w' := by
  have a0 := pdC_kd p
  have HOK0 := Lib.hid hip.1
  obtain ⟨nt, hnt⟩ : ∃ nt : Nat, at_ = (nt : Int) := ⟨at_.toNat, by omega⟩
  subst hnt
  have hwn := wI nt (by omega)
  have hby : (by_ == 0) = false := by simpa using hby0
  have hmc := hip.2.2.2.1
  have hlI : (5 : Int) < (p.m : Int) := by omega
  have hcI : (5 : Int) ≤ (p.c : Int) := by omega
  have hIN5 : RdT w p.A 5 L ∧ 5 * 32 ≤ 140737488351232 := ⟨hip.2.1.cut _ (by omega), by have := hip.2.2.2.1; have := hip.2.2.2.2; omega⟩
  have HBY0 := Lib.hid hby0
  have HIN5 := Lib.hid hIN5
  clear hby0 hIN5
  obtain ⟨W1, hW1⟩ : ∃ W1, w.alloc (.cells (pdC p) 31) = W1 := ⟨_, rfl⟩
  obtain ⟨X, hX⟩ : ∃ X, w.heap.size = X := ⟨_, rfl⟩
  have HX1 : Hid (PdT 31 W1 X p) := Lib.hid (by rw [← hW1, ← hX]; exact heap_alloc_new w _)
  have HB1 : Hid (Below w.heap.size w W1) := Lib.hid (by rw [← hW1]; exact (bself w).alloc (Nat.le_refl _) _)
  have HW1 := Lib.hid hW1
  have HXW := Lib.hid hX
  clear hip hW1 hX
  go_enter Try.func7, Try.ntmps7
  go_wp2_with fail
  rw [HW1.out, HXW.out]
  refine (awake_any _).mono ?_
  rintro e w2 ⟨rfl, hb2⟩
  have HX2 := Lib.hid (HX1.out.below hb2 HX1.out.lt)
  have HB2 := Lib.hid (HB1.out.trans (hb2.mono HB1.out.size))
  clear hb2 HX1 HB1
  go_wp2_with (refine wpList_st rfl 5 (.tmp 21) (.const (.int .u8 18)) rfl X 0 rfl (.int .u8 18) #[.int .u8 18] rfl rfl (by kernel_rfl) (by kernel_rfl) HX2.out (Nat.le_of_ble_eq_true rfl) (C' := pdC (setK p 18)) (by kernel_rfl) ?_; intro w3 hst3; refine Hid.out ?_)
  refine Lib.hid ?_
  have HX3 : Hid (PdT 31 w3 X (setK p 18)) := Lib.hid hst3.1
  have HB3 : Hid (Below w.heap.size w w3) := Lib.hid (HB2.out.trans (hst3.2.1 _ (by rw [HXW.out]; exact Nat.le_refl _)))
  have c46 : w3.cell? ⟨X, 46, none⟩ = some (.slice p.A p.m p.c) := (HX3.out.cell 46).trans rfl
  clear hst3 HX2 HB2
  go_wp2_with (refine wpList_st rfl 29 (.tmp 29) (.tmp 28) rfl X 46 rfl (.slice p.A 5 p.c) #[.slice p.A 5 p.c] rfl rfl (by kernel_rfl) (by kernel_rfl) HX3.out (Nat.le_of_ble_eq_true rfl) (C' := pdC (withT (setK p 18) p.A 5 p.c)) (by kernel_rfl) ?_; intro wq hst4; refine Hid.out ?_)
  refine Lib.hid ?_
  obtain ⟨p5, hp5⟩ : ∃ p5, withT (setK p 18) p.A 5 p.c = p5 := ⟨_, rfl⟩
  have hk5 : p5.kd = 18 := by rw [← hp5]; rfl
  have HIN : Hid (RdT w p5.A p5.m L ∧ p5.m * 32 ≤ 140737488351232) := Lib.hid (by rw [← hp5]; exact HIN5.out)
  have HOK : Hid (PdOk p5) := Lib.hid (by rw [← hp5]; exact setK_ok HOK0.out 18 ⟨by decide, by decide⟩)
  have HX2 : Hid (PdT 31 wq X p5) := Lib.hid (by rw [← hp5]; exact hst4.1)
  have HB2 : Hid (Below w.heap.size w wq) := Lib.hid (HB3.out.trans (hst4.2.1 _ (by rw [HXW.out]; exact Nat.le_refl _)))
  have HK5 := Lib.hid hk5
  clear hst4 hp5 hk5 c46 HX3 HB3
  obtain ⟨P, hP⟩ : ∃ P, wq.heap.size = P := ⟨_, rfl⟩
  obtain ⟨W4, hW4⟩ : ∃ W4, wq.alloc (.cells (pdC pd0) 33) = W4 := ⟨_, rfl⟩
  have hXP : X < P := by have := HX2.out.lt; omega
  have hgP : w.heap.size ≤ P := by have := HB2.out.size; omega
  have HM4 : Hid (PdT 33 W4 P pd0) := Lib.hid (by rw [← hW4, ← hP]; exact heap_alloc_new wq _)
  have HX4 : Hid (PdT 31 W4 X p5) := Lib.hid (by rw [← hW4]; exact (Below.heap_alloc _ _ _ HX2.out.lt).trans HX2.out)
  have HB4 : Hid (Below w.heap.size w W4) := Lib.hid (by rw [← hW4]; exact HB2.out.alloc HB2.out.size _)
  have HPP := Lib.hid hP
  have HW4 := Lib.hid hW4
  clear hP hW4
  go_wp2_with (first
    | (refine wpList_load_mid (op := ⟨some 30, _, _, _, _, _⟩) rfl 31 _ rfl X 0 rfl (pdC p5).toList _ HX2.out.all Try.underlying31 rfl info_pdR ?_)
    | (refine wpList_v (op := ⟨some 7, _, _, _, _, _⟩) rfl _ (alloc_P' _ _ rfl wq W4 P HPP.out HW4.out) ?_)
    | (refine wpList_st rfl 33 (.tmp 7) (.tmp 30) rfl P 0 rfl (.agg (pdC p5)) (pdC p5) rfl rfl info_pdP (pdC_one _) HM4.out (Nat.le_of_ble_eq_true rfl) (pd_all _ _) ?_; intro w5 hst5; refine Hid.out ?_))
  refine Lib.hid ?_
  have HM5 : Hid (PdT 33 w5 P p5) := Lib.hid hst5.1
  have HX5 : Hid (PdT 31 w5 X p5) := Lib.hid (HX4.out.far hst5 (by omega))
  have HB5 : Hid (Below w.heap.size w w5) := Lib.hid (HB4.out.trans (hst5.2.1 _ hgP))
  have c46 : w5.cell? ⟨X, 46, none⟩ = some (.slice p5.A p5.m p5.c) := (HX5.out.cell 46).trans (pdC_tl _)
  have hP5 : P < w5.heap.size := HM5.out.lt
  clear hst5 HM4 HX4 HB4 HX2 HB2
  go_wp2_with fail
  refine (twinT_any p5.A p5.m p5.c L _ (HIN.out.1.below HB5.out) HIN.out.2).mono ?_
  rintro e w6 ⟨v6, L', rfl, ho6, hal6, hb6⟩
  obtain ⟨A', c', rfl, hmc', hcx', hA', _⟩ := ho6.shape
  have HM6 := Lib.hid (HM5.out.below hb6 HM5.out.lt)
  have HX6 := Lib.hid (HX5.out.below hb6 HX5.out.lt)
  have HB6 := Lib.hid (HB5.out.trans (hb6.mono HB5.out.size))
  have HO6 := Lib.hid ho6
  have HAL := Lib.hid hal6
  have HCX := Lib.hid hcx'
  clear ho6 hal6 hb6 hcx' hA' HM5 HX5 c46
  go_wp2_with (refine wpList_st rfl 29 (.tmp 34) (.tmp 33) rfl P 46 rfl (.slice A' p5.m c') #[.slice A' p5.m c'] rfl rfl (by kernel_rfl) (by kernel_rfl) HM6.out (Nat.le_of_ble_eq_true rfl) (C' := pdC (withT p5 A' p5.m c')) (by kernel_rfl) ?_; intro w7 hst7; refine Hid.out ?_)
  refine Lib.hid ?_
  have HM7 : Hid (PdT 33 w7 P (withT p5 A' p5.m c')) := Lib.hid hst7.1
  have HX7 : Hid (PdT 31 w7 X p5) := Lib.hid (HX6.out.far hst7 (by omega))
  have HB7 : Hid (Below w.heap.size w w7) := Lib.hid (HB6.out.trans (hst7.2.1 _ hgP))
  have HO7 := Lib.hid (HO6.out.far hst7 hP5)
  clear hst7 HM6 HX6 HB6 HO6 HB5
  obtain ⟨m0, hm0⟩ := jends L' p5.m
  have HJ := Lib.hid hm0
  have HIN7 : Hid (PdIn w7 (withT p5 A' p5.m c') L') := Lib.hid (by
    obtain ⟨A8, c8, e8, _, _, _, hr8⟩ := HO7.out.shape
    cases e8
    exact ⟨hr8, hmc', HCX.out⟩)
  clear hm0
  go_wp2_with (refine wpList_load_mid (op := ⟨some 36, _, _, _, _, _⟩) rfl 33 _ rfl P 0 rfl (pdC (withT p5 A' p5.m c')).toList _ HM7.out.all Try.underlying33 rfl info_pdP ?_)
  refine (write_any (withT p5 A' p5.m c') HOK.out L' m0 HJ.out w7 HIN7.out).mono ?_
  rintro e w8 ⟨A8, c8, rfl, hr8, hc8, hm8, hb8, ho8⟩
  have HB8 := Lib.hid (HB7.out.trans (hb8.mono HB7.out.size))
  have HX8 := Lib.hid (HX7.out.below hb8 HX7.out.lt)
  have HO8 := Lib.hid (HO7.out.below hb8)
  have HR8 := Lib.hid hr8
  have HOW8 := Lib.hid ho8
  have HMX8 := Lib.hid hm8
  have hw87 := hb8.size
  have hXd := wrX_bd (withT p5 A' p5.m c') L' m0
  obtain ⟨XX, hXX⟩ : ∃ XX, wrX (withT p5 A' p5.m c') L' m0 = XX := ⟨_, rfl⟩
  have HXX := Lib.hid hXX
  rw [hXX] at HOW8 hXd ⊢
  have hw7 : w.heap.size ≤ w7.heap.size := HB7.out.size
  clear hr8 hb8 ho8 hm8 HX7 HM7 HB7 HO7 HIN7 hXX
  by_cases hX0 : XX = 0
  · subst hX0
    obtain ⟨hq, hft, hn1, hmm, hN, hZ⟩ := wr_yes (p := withT p5 A' p5.m c') HJ.out HXX.out
    obtain ⟨g8, rfl, hg8, hO8⟩ := HOW8.out rfl
    have hcl : cls (withT p5 A' p5.m c').kd = 2 := by show cls p5.kd = 2; rw [HK5.out]; rfl
    rw [hcl] at hn1 hN hZ
    rw [hN] at hc8 hO8 ⊢
    rw [hZ] at hO8
    obtain ⟨pm, hpm⟩ : ∃ pm, withT p5 A' p5.m c' = pm := ⟨_, rfl⟩
    have hokm : PdOk pm := by rw [← hpm]; exact HOK.out
    rw [hpm] at hcl hn1 hc8 hO8 ⊢
    have hwb : ∀ j, 0 ≤ wZ pm 2 L' j ∧ wZ pm 2 L' j ≤ 255 := cat_bd (accZ_bd pm _ 2 (by decide) hokm _) (fun j => by rw [← pd_tail pm 2 L' (by decide) j]; exact hO8.2 _)
    have HBT := Lib.hid (bad_turn pm L' hcl hn1 hwb)
    have h27 : 27 ≤ hdN 2 + sz L' pm.m := by show 27 ≤ 27 + _; omega
    obtain ⟨z, hz⟩ : ∃ z, pdZ pm 2 L' = z := ⟨_, rfl⟩
    obtain ⟨N, hNN⟩ : ∃ N, hdN 2 + sz L' pm.m = N := ⟨_, rfl⟩
    rw [hz, hNN] at HBT hO8
    rw [hNN] at hn1 hc8 h27 ⊢
    have hcm8 : c8 ≤ 9223372036854775807 := HMX8.out
    obtain ⟨I, t1, t2, hI8, hIN⟩ := turn_at nt N h27
    obtain ⟨J, hJ⟩ : ∃ J : Nat, I = J + 8 := ⟨I - 8, by omega⟩
    have t1' : (nt : Int).tmod ((N : Int) - 8) = (J : Int) := by omega
    have t2' : (nt : Int) % ((N : Int) - 8) = (J : Int) := by omega
    have hIJ : (8 : Int) + (J : Int) = (I : Int) := by omega
    have hzI := hO8.2 I
    have hV0 := xor_bd _ _ hzI hb0
    have hVne : bits .xor .u8 (z I) by_ ≠ z I := xor_ne _ _ hzI hb0 HBY0.out
    have HB9 := HB8
    obtain ⟨W9, hW9, ho9, hb9⟩ := put_ex hO8 hIN hV0 HB8.out (by omega)
    have ci := hO8.at_ I hIN
    have fi := hO8.free I
    have ci9 := ho9.at_ I hIN
    rw [upd_same] at ci9
    have HBI := Lib.hid (HBT.out I hI8 hIN)
    obtain ⟨Q, hQ⟩ : ∃ Q, z I = Q := ⟨_, rfl⟩
    rw [hQ] at hzI hV0 hVne hW9 ho9 ci ci9 HBI
    obtain ⟨V, hV⟩ : ∃ V, bits .xor .u8 Q by_ = V := ⟨_, rfl⟩
    rw [hV] at hV0 hVne hW9 ho9 ci9
    have HO9 := Lib.hid ho9
    have HB9 := Lib.hid hb9
    have HC8 := Lib.hid hc8
    have HVne := Lib.hid hVne
    have hJb : J ≤ 1492 := by omega
    have hNb : (8 : Int) < (N : Int) := by omega
    clear hO8 ho9 hb9 hokm hpm hz hNN t1 t2 hJ hcl hq hft hmm hN hZ hwb hQ HBT hVne
    by_cases h10 : I = 10
    · have b10 : ((I : Int) == 10) = true := by simp; omega
      clear h10
      go_wp2_with fail
      go_ret
      exact ⟨rfl, HB9.out⟩
    · have b10 : ((I : Int) == 10) = false := by simp; omega
      by_cases h11 : I = 11
      · have b11 : ((I : Int) == 11) = true := by simp; omega
        clear h11
        go_wp2_with fail
        go_ret
        exact ⟨rfl, HB9.out⟩
      · have b11 : ((I : Int) == 11) = false := by simp; omega
        by_cases hQ0 : Q = 0
        · have q0 : (Q == 0) = true := by simpa using hQ0
          have q255 : (Q == 255) = false := by simp; omega
          by_cases hV255 : V = 255
          · have v255 : (V == 255) = true := by simpa using hV255
            clear hQ0 hV255
            go_wp2_with fail
            go_ret
            exact ⟨rfl, HB9.out⟩
          · have v255 : (V == 255) = false := by simpa using hV255
            have HBad := Lib.hid (HBI.out h10 h11 V hV0 HVne.out (by omega) (by omega))
            clear hQ0 hV255 h10 h11
            have HRd := Lib.hid (read_bad (some ⟨g8, 0, none⟩) N c8 (upd z I V) W9 HO9.out.rd HC8.out HMX8.out hn1 HBad.out)
            go_wp2_with fail
            refine HRd.out.mono ?_
            rintro e w10 ⟨E, hE, rfl, hb10⟩
            have HB10 := Lib.hid (HB9.out.trans (hb10.mono HB9.out.size))
            obtain ⟨P2, hP2⟩ : ∃ P2, w10.heap.size = P2 := ⟨_, rfl⟩
            obtain ⟨W11, hW11⟩ : ∃ W11, w10.alloc (.cells (pdC pd0) 33) = W11 := ⟨_, rfl⟩
            have HM11 : Hid (PdT 33 W11 P2 pd0) := Lib.hid (by rw [← hW11, ← hP2]; exact heap_alloc_new w10 _)
            have HB11 : Hid (Below w.heap.size w W11) := Lib.hid (by rw [← hW11]; exact HB10.out.alloc HB10.out.size _)
            have hwP2 : w.heap.size ≤ P2 := by rw [← hP2]; exact HB10.out.size
            have HP2 := Lib.hid hP2
            have HW11 := Lib.hid hW11
            clear hb10 hP2 hW11
            go_wp2_with (first
              | (refine wpList_v (op := ⟨some 12, _, _, _, _, _⟩) rfl _ (alloc_P' _ _ rfl w10 W11 P2 HP2.out HW11.out) ?_)
              | (refine wpList_st rfl 33 (.tmp 12) (.tmp 91) rfl P2 0 rfl (.agg (pdC pd0)) (pdC pd0) rfl rfl info_pdP (pdC_one _) HM11.out (Nat.le_of_ble_eq_true rfl) (pd_all _ _) ?_; intro w12 hst12; refine Hid.out ?_))
            refine Lib.hid ?_
            have HB12 : Hid (Below w.heap.size w w12) := Lib.hid (HB11.out.trans (hst12.2.1 _ hwP2))
            have hM12 : PdT 33 w12 P2 pd0 := hst12.1
            have c0y : w12.cell? ⟨P2, 0, none⟩ = some (.int .u8 0) := (hM12.cell 0).trans rfl
            clear hst12 hM12 HM11 HB11
            rcases hE with rfl | rfl
            · go_wp2_with fail
              go_ret
              exact ⟨rfl, HB12.out⟩
            · go_wp2_with fail
              go_ret
              exact ⟨rfl, HB12.out⟩
        · have q0 : (Q == 0) = false := by simpa using hQ0
          by_cases hQ255 : Q = 255
          · have q255 : (Q == 255) = true := by simpa using hQ255
            by_cases hV00 : V = 0
            · have v0 : (V == 0) = true := by simpa using hV00
              clear hQ0 hQ255 hV00
              go_wp2_with fail
              go_ret
              exact ⟨rfl, HB9.out⟩
            · have v0 : (V == 0) = false := by simpa using hV00
              have HBad := Lib.hid (HBI.out h10 h11 V hV0 HVne.out (by omega) (by omega))
              clear hQ0 hQ255 hV00 h10 h11
              have HRd := Lib.hid (read_bad (some ⟨g8, 0, none⟩) N c8 (upd z I V) W9 HO9.out.rd HC8.out HMX8.out hn1 HBad.out)
              go_wp2_with fail
              refine HRd.out.mono ?_
              rintro e w10 ⟨E, hE, rfl, hb10⟩
              have HB10 := Lib.hid (HB9.out.trans (hb10.mono HB9.out.size))
              obtain ⟨P2, hP2⟩ : ∃ P2, w10.heap.size = P2 := ⟨_, rfl⟩
              obtain ⟨W11, hW11⟩ : ∃ W11, w10.alloc (.cells (pdC pd0) 33) = W11 := ⟨_, rfl⟩
              have HM11 : Hid (PdT 33 W11 P2 pd0) := Lib.hid (by rw [← hW11, ← hP2]; exact heap_alloc_new w10 _)
              have HB11 : Hid (Below w.heap.size w W11) := Lib.hid (by rw [← hW11]; exact HB10.out.alloc HB10.out.size _)
              have hwP2 : w.heap.size ≤ P2 := by rw [← hP2]; exact HB10.out.size
              have HP2 := Lib.hid hP2
              have HW11 := Lib.hid hW11
              clear hb10 hP2 hW11
              go_wp2_with (first
                | (refine wpList_v (op := ⟨some 12, _, _, _, _, _⟩) rfl _ (alloc_P' _ _ rfl w10 W11 P2 HP2.out HW11.out) ?_)
                | (refine wpList_st rfl 33 (.tmp 12) (.tmp 91) rfl P2 0 rfl (.agg (pdC pd0)) (pdC pd0) rfl rfl info_pdP (pdC_one _) HM11.out (Nat.le_of_ble_eq_true rfl) (pd_all _ _) ?_; intro w12 hst12; refine Hid.out ?_))
              refine Lib.hid ?_
              have HB12 : Hid (Below w.heap.size w w12) := Lib.hid (HB11.out.trans (hst12.2.1 _ hwP2))
              have hM12 : PdT 33 w12 P2 pd0 := hst12.1
              have c0y : w12.cell? ⟨P2, 0, none⟩ = some (.int .u8 0) := (hM12.cell 0).trans rfl
              clear hst12 hM12 HM11 HB11
              rcases hE with rfl | rfl
              · go_wp2_with fail
                go_ret
                exact ⟨rfl, HB12.out⟩
              · go_wp2_with fail
                go_ret
                exact ⟨rfl, HB12.out⟩
          · have q255 : (Q == 255) = false := by simpa using hQ255
            have HBad := Lib.hid (HBI.out h10 h11 V hV0 HVne.out (by omega) (by omega))
            clear hQ0 hQ255 h10 h11
            have HRd := Lib.hid (read_bad (some ⟨g8, 0, none⟩) N c8 (upd z I V) W9 HO9.out.rd HC8.out HMX8.out hn1 HBad.out)
            go_wp2_with fail
            refine HRd.out.mono ?_
            rintro e w10 ⟨E, hE, rfl, hb10⟩
            have HB10 := Lib.hid (HB9.out.trans (hb10.mono HB9.out.size))
            obtain ⟨P2, hP2⟩ : ∃ P2, w10.heap.size = P2 := ⟨_, rfl⟩
            obtain ⟨W11, hW11⟩ : ∃ W11, w10.alloc (.cells (pdC pd0) 33) = W11 := ⟨_, rfl⟩
            have HM11 : Hid (PdT 33 W11 P2 pd0) := Lib.hid (by rw [← hW11, ← hP2]; exact heap_alloc_new w10 _)
            have HB11 : Hid (Below w.heap.size w W11) := Lib.hid (by rw [← hW11]; exact HB10.out.alloc HB10.out.size _)
            have hwP2 : w.heap.size ≤ P2 := by rw [← hP2]; exact HB10.out.size
            have HP2 := Lib.hid hP2
            have HW11 := Lib.hid hW11
            clear hb10 hP2 hW11
            go_wp2_with (first
              | (refine wpList_v (op := ⟨some 12, _, _, _, _, _⟩) rfl _ (alloc_P' _ _ rfl w10 W11 P2 HP2.out HW11.out) ?_)
              | (refine wpList_st rfl 33 (.tmp 12) (.tmp 91) rfl P2 0 rfl (.agg (pdC pd0)) (pdC pd0) rfl rfl info_pdP (pdC_one _) HM11.out (Nat.le_of_ble_eq_true rfl) (pd_all _ _) ?_; intro w12 hst12; refine Hid.out ?_))
            refine Lib.hid ?_
            have HB12 : Hid (Below w.heap.size w w12) := Lib.hid (HB11.out.trans (hst12.2.1 _ hwP2))
            have hM12 : PdT 33 w12 P2 pd0 := hst12.1
            have c0y : w12.cell? ⟨P2, 0, none⟩ = some (.int .u8 0) := (hM12.cell 0).trans rfl
            clear hst12 hM12 HM11 HB11
            rcases hE with rfl | rfl
            · go_wp2_with fail
              go_ret
              exact ⟨rfl, HB12.out⟩
            · go_wp2_with fail
              go_ret
              exact ⟨rfl, HB12.out⟩
  · have hXb : (XX != 0) = true := by simpa using hX0
    go_wp2_with fail
    go_ret
    exact ⟨rfl, HB8.out⟩
end Go.Proofs.Ytigkmcbkckfhbaa
