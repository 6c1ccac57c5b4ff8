/- PduLife, of another kind. Each theorem states its conditions. -/
import Derived.Test.YtigkmcbkckfhbaaDLm
import Derived.Test.YtigkmcbkckfhbaaDSame
namespace Go.Proofs.Ytigkmcbkckfhbaa
open Go.RowKit
set_option linter.unusedVariables false

set_option maxHeartbeats 8000000 in
set_option maxRecDepth 100000 in
theorem life_other (p : Pd) (L : Nat → It) (lf : Int) (w : World) (hip : InP w p L) (hl0 : 0 ≤ lf ∧ lf ≤ 65535) (hk18 : ¬ p.kd = 18) : Calls Try.prog 6 #[.agg (pdC p), .int .u16 lf] w fun e w' => e = .returned (.bool true) ∧ Below w.heap.size w w' := by
  have a0 := pdC_kd p
  have HOK0 := Lib.hid hip.1
  obtain ⟨nt, hnt⟩ : ∃ nt : Nat, lf = (nt : Int) := ⟨lf.toNat, by omega⟩
  subst hnt
  have hntb : nt ≤ 65535 := by omega
  have hwn := wI nt (by omega)
  have HK18 := Lib.hid hk18
  have h18 : (p.kd != 18) = true := by simpa using hk18
  have HIN5 : Hid (RdT w p.A p.m L ∧ p.m * 32 ≤ 140737488351232) := Lib.hid ⟨hip.2.1, by have := hip.2.2.2.1; have := hip.2.2.2.2; omega⟩
  clear hk18
  obtain ⟨W1, hW1⟩ : ∃ W1, w.alloc (.cells (pdC p) 31) = W1 := ⟨_, rfl⟩
  obtain ⟨X, hX⟩ : ∃ X, w.heap.size = X := ⟨_, rfl⟩
  have HX1 : Hid (PdT 31 W1 X p) := Lib.hid (by rw [← hW1, ← hX]; exact heap_alloc_new w _)
  have HB1 : Hid (Below w.heap.size w W1) := Lib.hid (by rw [← hW1]; exact (bself w).alloc (Nat.le_refl _) _)
  have HW1 := Lib.hid hW1
  have HXW := Lib.hid hX
  clear hip hW1 hX
  go_enter Try.func6, Try.ntmps6
  go_wp2_with fail
  rw [HW1.out, HXW.out]
  refine (awake_any _).mono ?_
  rintro e w2 ⟨rfl, hb2⟩
  have HX2 := Lib.hid (HX1.out.below hb2 HX1.out.lt)
  have HB2 := Lib.hid (HB1.out.trans (hb2.mono HB1.out.size))
  clear hb2 HX1 HB1
  have c0 : w2.cell? ⟨X, 0, none⟩ = some (.int .u8 p.kd) := (HX2.out.cell 0).trans a0
  go_wp2_with (refine wpList_st rfl 5 (.tmp 16) (.const (.int .u8 20)) rfl X 0 rfl (.int .u8 20) #[.int .u8 20] rfl rfl (by kernel_rfl) (by kernel_rfl) HX2.out (Nat.le_of_ble_eq_true rfl) (C' := pdC (setK p 20)) (by kernel_rfl) ?_; intro wq hst4; refine Hid.out ?_)
  refine Lib.hid ?_
  obtain ⟨p5, hp5⟩ : ∃ p5, setK p 20 = p5 := ⟨_, rfl⟩
  have hk5 : cls p5.kd = 2 := by rw [← hp5]; rfl
  have HKD : Hid (p5.kd = 18 ∨ p5.kd = 20) := Lib.hid (.inr (by rw [← hp5]; rfl))
  have HIN : Hid (RdT w p5.A p5.m L ∧ p5.m * 32 ≤ 140737488351232) := Lib.hid (by rw [← hp5]; exact HIN5.out)
  have HOK : Hid (PdOk p5) := Lib.hid (by rw [← hp5]; exact setK_ok HOK0.out 20 ⟨by decide, by decide⟩)
  have HX2' : Hid (PdT 31 wq X p5) := Lib.hid (by rw [← hp5]; exact hst4.1)
  have HB2' : Hid (Below w.heap.size w wq) := Lib.hid (HB2.out.trans (hst4.2.1 _ (by rw [HXW.out]; exact Nat.le_refl _)))
  have HK5 := Lib.hid hk5
  clear hst4 hp5 hk5 c0 HX2 HB2
  have HX2 := HX2'
  have HB2 := HB2'
  obtain ⟨P, hP⟩ : ∃ P, wq.heap.size = P := ⟨_, rfl⟩
  obtain ⟨W4, hW4⟩ : ∃ W4, wq.alloc (.cells (pdC pd0) 33) = W4 := ⟨_, rfl⟩
  have hXP : X < P := by have := HX2.out.lt; omega
  have hgP : w.heap.size ≤ P := by have := HB2.out.size; omega
  have HM4 : Hid (PdT 33 W4 P pd0) := Lib.hid (by rw [← hW4, ← hP]; exact heap_alloc_new wq _)
  have HX4 : Hid (PdT 31 W4 X p5) := Lib.hid (by rw [← hW4]; exact (Below.heap_alloc _ _ _ HX2.out.lt).trans HX2.out)
  have HB4 : Hid (Below w.heap.size w W4) := Lib.hid (by rw [← hW4]; exact HB2.out.alloc HB2.out.size _)
  have HPP := Lib.hid hP
  have HW4 := Lib.hid hW4
  clear hP hW4
  go_wp2_with (first
    | (refine wpList_load_mid (op := ⟨some 17, _, _, _, _, _⟩) rfl 31 _ rfl X 0 rfl (pdC p5).toList _ HX2.out.all Try.underlying31 rfl info_pdR ?_)
    | (refine wpList_v (op := ⟨some 5, _, _, _, _, _⟩) rfl _ (alloc_P' _ _ rfl wq W4 P HPP.out HW4.out) ?_)
    | (refine wpList_st rfl 33 (.tmp 5) (.tmp 17) rfl P 0 rfl (.agg (pdC p5)) (pdC p5) rfl rfl info_pdP (pdC_one _) HM4.out (Nat.le_of_ble_eq_true rfl) (pd_all _ _) ?_; intro w5 hst5; refine Hid.out ?_))
  refine Lib.hid ?_
  have HM5 : Hid (PdT 33 w5 P p5) := Lib.hid hst5.1
  have HX5 : Hid (PdT 31 w5 X p5) := Lib.hid (HX4.out.far hst5 (by omega))
  have HB5 : Hid (Below w.heap.size w w5) := Lib.hid (HB4.out.trans (hst5.2.1 _ hgP))
  have c46 : w5.cell? ⟨X, 46, none⟩ = some (.slice p5.A p5.m p5.c) := (HX5.out.cell 46).trans (pdC_tl _)
  have hP5 : P < w5.heap.size := HM5.out.lt
  clear hst5 HM4 HX4 HB4 HX2 HB2
  go_wp2_with fail
  refine (twinT_any p5.A p5.m p5.c L _ (HIN.out.1.below HB5.out) HIN.out.2).mono ?_
  rintro e w6 ⟨v6, L', rfl, ho6, hal6, hb6⟩
  obtain ⟨A', c', rfl, hmc', hcx', hA', _⟩ := ho6.shape
  have HM6 := Lib.hid (HM5.out.below hb6 HM5.out.lt)
  have HX6 := Lib.hid (HX5.out.below hb6 HX5.out.lt)
  have HB6 := Lib.hid (HB5.out.trans (hb6.mono HB5.out.size))
  have HO6 := Lib.hid ho6
  have HAL := Lib.hid hal6
  have HCX := Lib.hid hcx'
  clear ho6 hal6 hb6 hcx' hA' HM5 HX5 c46
  go_wp2_with (refine wpList_st rfl 29 (.tmp 21) (.tmp 20) rfl P 46 rfl (.slice A' p5.m c') #[.slice A' p5.m c'] rfl rfl (by kernel_rfl) (by kernel_rfl) HM6.out (Nat.le_of_ble_eq_true rfl) (C' := pdC (withT p5 A' p5.m c')) (by kernel_rfl) ?_; intro w7 hst7; refine Hid.out ?_)
  refine Lib.hid ?_
  have HM7 : Hid (PdT 33 w7 P (withT p5 A' p5.m c')) := Lib.hid hst7.1
  have HX7 : Hid (PdT 31 w7 X p5) := Lib.hid (HX6.out.far hst7 (by omega))
  have HB7 : Hid (Below w.heap.size w w7) := Lib.hid (HB6.out.trans (hst7.2.1 _ hgP))
  have HO7 := Lib.hid (HO6.out.far hst7 hP5)
  clear hst7 HM6 HX6 HB6 HO6 HB5
  obtain ⟨m0, hm0⟩ := jends L' p5.m
  have HJ := Lib.hid hm0
  have HIN7 : Hid (PdIn w7 (withT p5 A' p5.m c') L') := Lib.hid (by
    obtain ⟨A8, c8, e8, _, _, _, hr8⟩ := HO7.out.shape
    cases e8
    exact ⟨hr8, hmc', HCX.out⟩)
  clear hm0
  go_wp2_with (refine wpList_load_mid (op := ⟨some 23, _, _, _, _, _⟩) rfl 33 _ rfl P 0 rfl (pdC (withT p5 A' p5.m c')).toList _ HM7.out.all Try.underlying33 rfl info_pdP ?_)
  refine (write_any (withT p5 A' p5.m c') HOK.out L' m0 HJ.out w7 HIN7.out).mono ?_
  rintro e w8 ⟨A8, c8, rfl, hr8, hc8, hm8, hb8, ho8⟩
  have HB8 := Lib.hid (HB7.out.trans (hb8.mono HB7.out.size))
  have HX8 := Lib.hid (HX7.out.below hb8 HX7.out.lt)
  have HO8 := Lib.hid (HO7.out.below hb8)
  have HR8 := Lib.hid hr8
  have HOW8 := Lib.hid ho8
  have HMX8 := Lib.hid hm8
  have hw87 := hb8.size
  have hXd := wrX_bd (withT p5 A' p5.m c') L' m0
  obtain ⟨XX, hXX⟩ : ∃ XX, wrX (withT p5 A' p5.m c') L' m0 = XX := ⟨_, rfl⟩
  have HXX := Lib.hid hXX
  rw [hXX] at HOW8 hXd ⊢
  have hw7 : w.heap.size ≤ w7.heap.size := HB7.out.size
  have hX7 : X < w7.heap.size := HX7.out.lt
  clear hr8 hb8 ho8 hm8 HX7 HM7 HB7 HO7 HIN7 hXX
  by_cases hX0 : XX = 0
  · subst hX0
    obtain ⟨hq, hft, hn1, hmm, hN, hZ⟩ := wr_yes (p := withT p5 A' p5.m c') HJ.out HXX.out
    obtain ⟨g8, rfl, hg8, hO8⟩ := HOW8.out rfl
    have hcl : cls (withT p5 A' p5.m c').kd = 2 := HK5.out
    rw [hcl] at hn1 hN hZ
    rw [hN] at hc8 hO8 ⊢
    rw [hZ] at hO8
    have h27 : 27 ≤ hdN 2 + sz L' (withT p5 A' p5.m c').m := by show 27 ≤ 27 + _; omega
    have hlp := life_pd (withT p5 A' p5.m c') L' nt hntb
    obtain ⟨pl, hpl⟩ : ∃ pl, setL (withT p5 A' p5.m c') nt = pl := ⟨_, rfl⟩
    have hokl : PdOk pl := by rw [← hpl]; exact setL_ok HOK.out _ ⟨by omega, by omega⟩
    have hkl : cls pl.kd = 2 := by rw [← hpl]; exact HK5.out
    have hml : pl.m = p5.m := by rw [← hpl]; rfl
    have hftl : fitP pl 2 = true := by rw [← hpl]; exact fit_setL _ nt hntb
    have hnl : hdN 2 + sz L' pl.m ≤ 1492 := by rw [hml]; exact hn1
    have hp6 : pl2 pl = withT (pl2 pl) A' p5.m c' := by rw [← hpl]; rfl
    have hp7 : (pl2 (setL p5 nt)) = withT (pl2 pl) p5.A p5.m p5.c := by rw [← hpl]; rfl
    rw [hpl] at hlp
    obtain ⟨W9, hW9, ho9, hb9⟩ := put_ex hO8 (i := 10) (v := (nt : Int) / 256) (by omega) (by omega) HB8.out (by omega)
    obtain ⟨W10, hW10, ho10, hb10⟩ := put_ex ho9 (i := 11) (v := (nt : Int) % 256) (by omega) (by omega) hb9 (by omega)
    rw [hlp] at ho10
    have hgd := good_pd pl L' hokl (by rw [hkl]; decide) (by rw [hkl]; exact hftl) (by rw [hkl]; exact hnl) (by rw [hkl]; exact ho10.2)
    rw [hkl] at hgd
    have h4 : pdZ pl 2 L' 4 = pl.kd := pd_head pl 2 L' (by decide) 4 (by omega)
    have hbk := rd_eq pl L' hokl 2 hkl (by decide) hftl
    have htl := tl_pd pl 2 L' (by decide)
    have hXg : X < g8 := by omega
    have hx10 : PdT 31 W10 X p5 := by rw [← hW10, ← hW9]; exact (Below.heap_setCell _ _ _ _ (by show X ≠ g8; omega)).trans ((Below.heap_setCell _ _ _ _ (by show X ≠ g8; omega)).trans HX8.out)
    rw [hml] at hgd htl
    have hn1' : hdN 2 + sz L' p5.m ≤ 1492 := hn1
    have hN8 : hdN 2 + sz L' (withT p5 A' p5.m c').m = hdN 2 + sz L' p5.m := rfl
    rw [hN8] at ho10 hc8 h27 hO8 ⊢
    obtain ⟨N, hNN⟩ : ∃ N, hdN 2 + sz L' p5.m = N := ⟨_, rfl⟩
    rw [hNN] at ho10 hgd hc8 h27 hn1' hO8 ⊢
    have HRd := Lib.hid (read_good (some ⟨g8, 0, none⟩) N c8 (pdZ pl 2 L') W10 ho10.rd hc8 HMX8.out hn1' p5.m hgd)
    rw [h4, hkl] at HRd
    have hcm8 : c8 ≤ 9223372036854775807 := HMX8.out
    have c10 := hO8.at_ 10 (by omega)
    have c11 := ho9.at_ 11 (by omega)
    have c11b := hO8.at_ 11 (by omega)
    have f10 := hO8.free 10
    have f11 := hO8.free 11
    have f11b := ho9.free 11
    have HX10 := Lib.hid hx10
    have HB10 := Lib.hid hb10
    have HBK := Lib.hid hbk
    have HTL := Lib.hid htl
    have HP6 := Lib.hid hp6
    have HP7 := Lib.hid hp7
    have HW10 := Lib.hid hW10
    have HOKL := Lib.hid hokl
    clear hO8 ho9 ho10 hb9 hb10 hbk htl hgd h4 hp6 hp7 hpl hlp hml hkl hftl hnl hNN hN8 hokl hq hft hmm hN hZ hcl hx10
    go_wp2_with fail
    refine HRd.out.mono ?_
    rintro e w11 ⟨Ar, cr, L5, rfl, hoT, hIs, hAr, hmr, hcr, hb11⟩
    have hPE : pdC (withT (rdP 2 (pdZ pl 2 L')) Ar p5.m cr) = pdC (withT (pl2 pl) Ar p5.m cr) := pdC_ext HBK.out Ar p5.m cr
    rw [hPE]
    obtain ⟨y, hy⟩ : ∃ y, withT (pl2 pl) Ar p5.m cr = y := ⟨_, rfl⟩
    rw [hy]
    have HY := Lib.hid hy
    have HE5 : Hid (∀ j, j < p5.m → (L5 j).ty = (L j).ty ∧ (L5 j).n = (L j).n ∧ ∀ i, i < (L5 j).n → (L5 j).z i = (L j).z i) := Lib.hid (fun j hj => by
      have hI := hIs
      rw [HTL.out] at hI
      obtain ⟨k1, k2, k3⟩ := J_back hI j hj
      obtain ⟨l1, l2, l3⟩ := HAL.out j hj
      exact ⟨k1.trans l1.symm, k2.trans l2.symm, fun i hi => (k3 i hi).trans (by rw [l3])⟩)
    have HX11 := Lib.hid (HX10.out.below hb11 HX10.out.lt)
    have HB11 := Lib.hid (HB10.out.trans (hb11.mono HB10.out.size))
    have HO11 := Lib.hid hoT
    obtain ⟨P2, hP2⟩ : ∃ P2, w11.heap.size = P2 := ⟨_, rfl⟩
    obtain ⟨W12, hW12⟩ : ∃ W12, w11.alloc (.cells (pdC pd0) 33) = W12 := ⟨_, rfl⟩
    have HM12 : Hid (PdT 33 W12 P2 pd0) := Lib.hid (by rw [← hW12, ← hP2]; exact heap_alloc_new w11 _)
    have HB12 : Hid (Below P2 w11 W12) := Lib.hid (by rw [← hW12, ← hP2]; exact (bself w11).alloc (Nat.le_refl _) _)
    have HP2 := Lib.hid hP2
    have HW12 := Lib.hid hW12
    clear hoT hIs hAr hb11 hPE hy hP2 hW12 c10 c11 c11b f10 f11 f11b hW9 HX10
    go_wp2_with (first
      | (refine wpList_v (op := ⟨some 8, _, _, _, _, _⟩) rfl _ (alloc_P' _ _ rfl w11 W12 P2 HP2.out HW12.out) ?_)
      | (refine wpList_st rfl 33 (.tmp 8) (.tmp 47) rfl P2 0 rfl (.agg (pdC y)) (pdC y) rfl rfl info_pdP (pdC_one _) HM12.out (Nat.le_of_ble_eq_true rfl) (pd_all _ _) ?_; intro w13 hst13; refine Hid.out ?_))
    refine Lib.hid ?_
    have hb13 : Below w11.heap.size w11 w13 := by rw [HP2.out]; exact HB12.out.trans (hst13.2.1 P2 (Nat.le_refl _))
    have HY13 : Hid (PdT 33 w13 P2 y) := Lib.hid hst13.1
    have HX13 := Lib.hid (HX11.out.below hb13 HX11.out.lt)
    have HB13 := Lib.hid (HB11.out.trans (hb13.mono HB11.out.size))
    have HO13 := Lib.hid (HO11.out.below hb13)
    clear hst13 hb13 HM12 HB12 HX11 HO11
    go_wp2_with (refine wpList_load_mid (op := ⟨some 49, _, _, _, _, _⟩) rfl 31 _ rfl X 0 rfl (pdC p5).toList _ HX13.out.all Try.underlying31 rfl info_pdR ?_)
    refine (plain_2 p5 HKD.out _).mono ?_
    rintro e w14 ⟨rfl, hb14⟩
    have HY14 := Lib.hid (HY13.out.below hb14 HY13.out.lt)
    have HB14 := Lib.hid (HB13.out.trans (hb14.mono HB13.out.size))
    have HO14 := Lib.hid (HO13.out.below hb14)
    have hy14 : P2 < w14.heap.size := HY14.out.lt
    obtain ⟨P3, hP3⟩ : ∃ P3, w14.heap.size = P3 := ⟨_, rfl⟩
    obtain ⟨W15, hW15⟩ : ∃ W15, w14.alloc (.cells (pdC pd0) 31) = W15 := ⟨_, rfl⟩
    rw [hP3] at hy14
    have HM15 : Hid (PdT 31 W15 P3 pd0) := Lib.hid (by rw [← hW15, ← hP3]; exact heap_alloc_new w14 _)
    have HB15 : Hid (Below P3 w14 W15) := Lib.hid (by rw [← hW15, ← hP3]; exact (bself w14).alloc (Nat.le_refl _) _)
    have HP3 := Lib.hid hP3
    have HW15 := Lib.hid hW15
    clear hb14 hP3 hW15 HY13 HX13 HO13
    go_wp2_with (first
      | (refine wpList_v (op := ⟨some 10, _, _, _, _, _⟩) rfl _ (alloc_R' _ _ rfl w14 W15 P3 HP3.out HW15.out) ?_)
      | (refine wpList_st rfl 31 (.tmp 10) (.tmp 50) rfl P3 0 rfl (.agg (pdC (pl2 p5))) (pdC (pl2 p5)) rfl rfl info_pdR (pdC_one _) HM15.out (Nat.le_of_ble_eq_true rfl) (pd_all _ _) ?_; intro w16 hst16; refine Hid.out ?_))
    refine Lib.hid ?_
    have HQ16 : Hid (PdT 31 w16 P3 (pl2 p5)) := Lib.hid hst16.1
    have HB16 : Hid (Below P3 w14 w16) := Lib.hid (HB15.out.trans (hst16.2.1 P3 (Nat.le_refl _)))
    clear hst16 HM15 HB15
    go_wp2_with (refine wpList_st rfl 3 (.tmp 53) (.tmp 52) rfl P3 19 rfl (.int .i64 (nt : Int)) #[.int .i64 (nt : Int)] rfl rfl (by kernel_rfl) (by kernel_rfl) HQ16.out (Nat.le_of_ble_eq_true rfl) (C' := pdC (pl2 (setL p5 nt))) (by kernel_rfl) ?_; intro w17 hst17; refine Hid.out ?_)
    refine Lib.hid ?_
    have hb17 : Below w14.heap.size w14 w17 := by rw [HP3.out]; exact HB16.out.trans (hst17.2.1 P3 (Nat.le_refl _))
    have HQ17 : Hid (PdT 31 w17 P3 (pl2 (setL p5 nt))) := Lib.hid hst17.1
    have HY17 := Lib.hid (HY14.out.below hb17 HY14.out.lt)
    have HB17 := Lib.hid (HB14.out.trans (hb17.mono HB14.out.size))
    have HO17 := Lib.hid (HO14.out.below hb17)
    have hyok : PdOk y := by
      rw [← HY.out]
      obtain ⟨⟨q1, q2, q3, q4, q5, q6, q7⟩, q8, q9, q10, q11, q12, q13⟩ := HOKL.out
      have zb : ∀ j, 0 ≤ z0 j ∧ z0 j ≤ 255 := fun j => (⟨Int.le_refl 0, by decide⟩ : (0 : Int) ≤ 0 ∧ (0 : Int) ≤ 255)
      have b0 : by1 0 := ⟨Int.le_refl 0, by decide⟩
      have i0 : in64 0 := ⟨by decide, by decide⟩
      exact ⟨⟨q1, b0, zb, i0, b0, b0, zb⟩, q8, q9, q10, q11, zb, zb⟩
    have hrT : RdT w17 y.A y.m L5 := by
      rw [← HY.out]
      obtain ⟨A9, c9, e9, _, _, _, hr9⟩ := HO17.out.shape
      cases e9
      exact hr9
    have hSame := same_pd y (pl2 (setL p5 nt)) L5 L w17 hyok (by rw [HP7.out, ← HY.out]; rfl) hrT (HIN.out.1.below HB17.out) (by rw [← HY.out]; rfl) (by rw [← HY.out]; show p5.m ≤ _; have := HIN.out.2; omega) (by rw [← HY.out]; exact HE5.out)
    have HSame := Lib.hid hSame
    clear hst17 hb17 hyok hrT hSame HQ16 HB16 HY14 HO14
    go_wp2_with (refine wpList_gv (op := ⟨some 57, _, _, _, _, _⟩) _ (by rfl) (load_rng _ _ 33 _ rfl P2 0 rfl (pdC y).toList _ HY17.out.all Try.underlying33 rfl info_pdP) ?_; refine Hid.out ?_)
    refine Lib.hid ?_
    go_wp2_with (refine wpList_gv (op := ⟨some 58, _, _, _, _, _⟩) _ (by rfl) (load_rng _ _ 31 _ rfl P3 0 rfl (pdC (pl2 (setL p5 nt))).toList _ HQ17.out.all Try.underlying31 rfl info_pdR) ?_; refine Hid.out ?_)
    refine Lib.hid ?_
    go_wp2_with fail
    refine HSame.out.mono ?_
    rintro e w18 ⟨rfl, hb18⟩
    have HB18 := Lib.hid (HB17.out.trans (hb18.mono HB17.out.size))
    clear hb18
    go_wp2_with fail
    go_ret
    exact ⟨rfl, HB18.out⟩
  · have hXc : XX = 1 ∨ XX = 2 := by omega
    have hXb : (XX != 0) = true := by simpa using hX0
    rcases hXc with rfl | rfl
    · go_wp2_with fail
      go_ret
      exact ⟨rfl, HB8.out⟩
    · go_wp2_with fail
      go_ret
      exact ⟨rfl, HB8.out⟩
end Go.Proofs.Ytigkmcbkckfhbaa
