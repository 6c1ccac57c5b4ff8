/- PduCut, many bytes behind. Each theorem states its conditions. -/
import Derived.Test.YtigkmcbkckfhbaaDCutM
namespace Go.Proofs.Ytigkmcbkckfhbaa
open Go.RowKit
set_option linter.unusedVariables false

set_option maxHeartbeats 8000000 in
set_option maxRecDepth 100000 in
theorem cut_tall (p : Pd) (L : Nat → It) (nn : Int) (a1 : Option Addr) (len1 cap1 : Nat) (z1 : Nat → Int) (w : World) (hip : InP w p L) (hn0 : 0 ≤ nn ∧ nn ≤ 65535) (hr1 : Rd w a1 len1 z1) (hA1 : a1 = none → len1 = 0 ∧ cap1 = 0) (hlc1 : len1 ≤ cap1) (hcm1 : cap1 ≤ 140737488351232) (hl : 200 < len1) : Calls Try.prog 8 #[.agg (pdC p), .int .u16 nn, .slice a1 len1 cap1] w fun e w' => e = .returned (.bool true) ∧ Below w.heap.size w w' := by
  have a0 := pdC_kd p
  have HOK := Lib.hid hip.1
  have HIN : Hid (RdT w p.A p.m L ∧ p.m * 32 ≤ 140737488351232) := Lib.hid ⟨hip.2.1, by have := hip.2.2.2.1; have := hip.2.2.2.2; omega⟩
  have HR1 := Lib.hid hr1
  have HA1 := Lib.hid hA1
  obtain ⟨nt, hnt⟩ : ∃ nt : Nat, nn = (nt : Int) := ⟨nn.toNat, by omega⟩
  subst hnt
  have hntb : nt ≤ 65535 := by omega
  have hwn := wI nt (by omega)
  have hlI : (200 : Int) < (len1 : Int) := by omega
  clear hr1 hA1
  obtain ⟨W1, hW1⟩ : ∃ W1, w.alloc (.cells (pdC p) 31) = W1 := ⟨_, rfl⟩
  obtain ⟨X, hX⟩ : ∃ X, w.heap.size = X := ⟨_, rfl⟩
  have HX1 : Hid (PdT 31 W1 X p) := Lib.hid (by rw [← hW1, ← hX]; exact heap_alloc_new w _)
  have HB1 : Hid (Below w.heap.size w W1) := Lib.hid (by rw [← hW1]; exact (bself w).alloc (Nat.le_refl _) _)
  have HW1 := Lib.hid hW1
  have HXW := Lib.hid hX
  clear hip hW1 hX
  go_enter Try.func8, Try.ntmps8
  go_wp2_with fail
  rw [HW1.out, HXW.out]
  refine (awake_any _).mono ?_
  rintro e w2 ⟨rfl, hb2⟩
  have HX2 := Lib.hid (HX1.out.below hb2 HX1.out.lt)
  have HB2 := Lib.hid (HB1.out.trans (hb2.mono HB1.out.size))
  clear hb2 HX1 HB1
  obtain ⟨P, hP⟩ : ∃ P, w2.heap.size = P := ⟨_, rfl⟩
  obtain ⟨W4, hW4⟩ : ∃ W4, w2.alloc (.cells (pdC pd0) 33) = W4 := ⟨_, rfl⟩
  have hXP : X < P := by have := HX2.out.lt; omega
  have hgP : w.heap.size ≤ P := by have := HB2.out.size; omega
  have HM4 : Hid (PdT 33 W4 P pd0) := Lib.hid (by rw [← hW4, ← hP]; exact heap_alloc_new w2 _)
  have HX4 : Hid (PdT 31 W4 X p) := Lib.hid (by rw [← hW4]; exact (Below.heap_alloc _ _ _ HX2.out.lt).trans HX2.out)
  have HB4 : Hid (Below w.heap.size w W4) := Lib.hid (by rw [← hW4]; exact HB2.out.alloc HB2.out.size _)
  have HPP := Lib.hid hP
  have HW4 := Lib.hid hW4
  clear hP hW4
  go_wp2_with (first
    | (refine wpList_load_mid (op := ⟨some 16, _, _, _, _, _⟩) rfl 31 _ rfl X 0 rfl (pdC p).toList _ HX2.out.all Try.underlying31 rfl info_pdR ?_)
    | (refine wpList_v (op := ⟨some 7, _, _, _, _, _⟩) rfl _ (alloc_P' _ _ rfl w2 W4 P HPP.out HW4.out) ?_)
    | (refine wpList_st rfl 33 (.tmp 7) (.tmp 16) rfl P 0 rfl (.agg (pdC p)) (pdC p) rfl rfl info_pdP (pdC_one _) HM4.out (Nat.le_of_ble_eq_true rfl) (pd_all _ _) ?_; intro w5 hst5; refine Hid.out ?_))
  refine Lib.hid ?_
  have HM5 : Hid (PdT 33 w5 P p) := Lib.hid hst5.1
  have HX5 : Hid (PdT 31 w5 X p) := Lib.hid (HX4.out.far hst5 (by omega))
  have HB5 : Hid (Below w.heap.size w w5) := Lib.hid (HB4.out.trans (hst5.2.1 _ hgP))
  have c46 : w5.cell? ⟨X, 46, none⟩ = some (.slice p.A p.m p.c) := (HX5.out.cell 46).trans (pdC_tl _)
  have hP5 : P < w5.heap.size := HM5.out.lt
  clear hst5 HM4 HX4 HB4 HX2 HB2
  go_wp2_with fail
  refine (twinT_any p.A p.m p.c L _ (HIN.out.1.below HB5.out) HIN.out.2).mono ?_
  rintro e w6 ⟨v6, L', rfl, ho6, hal6, hb6⟩
  obtain ⟨A', c', rfl, hmc', hcx', hA', _⟩ := ho6.shape
  have HM6 := Lib.hid (HM5.out.below hb6 HM5.out.lt)
  have HX6 := Lib.hid (HX5.out.below hb6 HX5.out.lt)
  have HB6 := Lib.hid (HB5.out.trans (hb6.mono HB5.out.size))
  have HO6 := Lib.hid ho6
  have HAL := Lib.hid hal6
  have HCX := Lib.hid hcx'
  clear ho6 hal6 hb6 hcx' hA' HM5 HX5 c46
  go_wp2_with (refine wpList_st rfl 29 (.tmp 20) (.tmp 19) rfl P 46 rfl (.slice A' p.m c') #[.slice A' p.m c'] rfl rfl (by kernel_rfl) (by kernel_rfl) HM6.out (Nat.le_of_ble_eq_true rfl) (C' := pdC (withT p A' p.m c')) (by kernel_rfl) ?_; intro w7 hst7; refine Hid.out ?_)
  refine Lib.hid ?_
  have HM7 : Hid (PdT 33 w7 P (withT p A' p.m c')) := Lib.hid hst7.1
  have HX7 : Hid (PdT 31 w7 X p) := Lib.hid (HX6.out.far hst7 (by omega))
  have HB7 : Hid (Below w.heap.size w w7) := Lib.hid (HB6.out.trans (hst7.2.1 _ hgP))
  have HO7 := Lib.hid (HO6.out.far hst7 hP5)
  clear hst7 HM6 HX6 HB6 HO6 HB5
  obtain ⟨m0, hm0⟩ := jends L' p.m
  have HJ := Lib.hid hm0
  have HIN7 : Hid (PdIn w7 (withT p A' p.m c') L') := Lib.hid (by
    obtain ⟨A8, c8, e8, _, _, _, hr8⟩ := HO7.out.shape
    cases e8
    exact ⟨hr8, hmc', HCX.out⟩)
  clear hm0
  go_wp2_with (refine wpList_load_mid (op := ⟨some 22, _, _, _, _, _⟩) rfl 33 _ rfl P 0 rfl (pdC (withT p A' p.m c')).toList _ HM7.out.all Try.underlying33 rfl info_pdP ?_)
  refine (write_any (withT p A' p.m c') HOK.out L' m0 HJ.out w7 HIN7.out).mono ?_
  rintro e w8 ⟨A8, c8, rfl, hr8, hc8, hm8, hb8, ho8⟩
  have HB8 := Lib.hid (HB7.out.trans (hb8.mono HB7.out.size))
  have HX8 := Lib.hid (HX7.out.below hb8 HX7.out.lt)
  have HO8 := Lib.hid (HO7.out.below hb8)
  have HR8 := Lib.hid hr8
  have HOW8 := Lib.hid ho8
  have HMX8 := Lib.hid hm8
  have hw87 := hb8.size
  have hXd := wrX_bd (withT p A' p.m c') L' m0
  obtain ⟨XX, hXX⟩ : ∃ XX, wrX (withT p A' p.m c') L' m0 = XX := ⟨_, rfl⟩
  have HXX := Lib.hid hXX
  rw [hXX] at HOW8 hXd ⊢
  clear hr8 hb8 ho8 hm8 HX7 HM7 HB7 HO7 HIN7 hXX
  by_cases hX0 : XX = 0
  · subst hX0
    obtain ⟨hq, hft, hn1, hmm, hN, hZ⟩ := wr_yes (p := withT p A' p.m c') HJ.out HXX.out
    obtain ⟨g8, rfl, hg8, hO8⟩ := HOW8.out rfl
    rw [hN] at hc8 hO8 HR8 ⊢
    rw [hZ] at hO8 HR8
    have HBD := Lib.hid hO8.2
    have h17 := hdN_bd _ hq
    have HCM := Lib.hid (cut_more (withT p A' p.m c') L' HOK.out hq hft hn1 z1 200)
    have HFN := Lib.hid (fun k hk => form_not (withT p A' p.m c') L' (pdZ (withT p A' p.m c') (cls (withT p A' p.m c').kd) L') k hq hn1 (fun _ _ _ => rfl) hk)
    obtain ⟨z, hz⟩ : ∃ z, pdZ (withT p A' p.m c') (cls (withT p A' p.m c').kd) L' = z := ⟨_, rfl⟩
    obtain ⟨N, hNN⟩ : ∃ N, hdN (cls (withT p A' p.m c').kd) + sz L' (withT p A' p.m c').m = N := ⟨_, rfl⟩
    rw [hz, hNN] at HFN
    have HCM' : Hid (∀ (A : Option Addr) (c : Nat) (w : World), Rd w A (N + 200) (cat z N z1) → N + 200 ≤ c → c ≤ maxLen → Calls Try.prog 16 #[.slice A (N + 200) c] w (SomeRd (CutE 200 (N + 200)) w)) := Lib.hid (fun A c w h1 h2 h3 => HCM.out A c w N hNN (HBD.out) (by rw [hz]; exact h1) h2 h3)
    rw [hz] at hO8 HR8
    rw [hNN] at hc8 hO8 HR8 hn1 ⊢
    have hN17 : 17 ≤ N := by omega
    have HO8' := Lib.hid hO8
    have hN0 : ((N : Int) == 0) = false := by simp; omega
    have hrm : ((nt : Int)).tmod (N : Int) = ((nt % N : Nat) : Int) := by rw [Int.tmod_eq_emod_of_nonneg (by omega)]; rfl
    have hrl : nt % N < N := Nat.mod_lt _ (by omega)
    obtain ⟨k, hk⟩ : ∃ k, nt % N = k := ⟨_, rfl⟩
    have hrm3 : (nt : Int) % (N : Int) = (k : Int) := by rw [← hk]; rfl
    rw [hk] at hrm hrl
    have HCut := Lib.hid (read_form (some ⟨g8, 0, none⟩) k c8 z w8 (HR8.out.cut k (by omega)) (by omega) HMX8.out (by omega) (HFN.out k (by omega)))
    have hcm8 : c8 ≤ 9223372036854775807 := HMX8.out
    have hrm2 : (nt : Int) % (N : Int) = (k : Int) := hrm3
    have hkc : (k : Int) ≤ (c8 : Int) := by omega
    clear hO8 hz hNN hk hq hft hmm hN hZ HCM hrm3
    go_wp2_with fail
    refine HCut.out.mono ?_
    rintro e w9 ⟨rfl, hb9⟩
    have HO9 := Lib.hid (HO8'.out.below hb9 HO8'.out.lt)
    have HB9 := Lib.hid (HB8.out.trans (hb9.mono HB8.out.size))
    obtain ⟨P2, hP2⟩ : ∃ P2, w9.heap.size = P2 := ⟨_, rfl⟩
    obtain ⟨W10, hW10⟩ : ∃ W10, w9.alloc (.cells (pdC pd0) 33) = W10 := ⟨_, rfl⟩
    have HM10 : Hid (PdT 33 W10 P2 pd0) := Lib.hid (by rw [← hW10, ← hP2]; exact heap_alloc_new w9 _)
    have HO10 : Hid (Own8 W10 g8 N c8 z) := Lib.hid (by rw [← hW10]; exact HO9.out.alloc _)
    have HB10 : Hid (Below w.heap.size w W10) := Lib.hid (by rw [← hW10]; exact HB9.out.alloc HB9.out.size _)
    have hg8P : g8 < P2 := by rw [← hP2]; exact HO9.out.lt
    have hwP2 : w.heap.size ≤ P2 := by rw [← hP2]; exact HB9.out.size
    have HP2 := Lib.hid hP2
    have HW10 := Lib.hid hW10
    clear hb9 hP2 hW10
    go_wp2_with (first
      | (refine wpList_v (op := ⟨some 10, _, _, _, _, _⟩) rfl _ (alloc_P' _ _ rfl w9 W10 P2 HP2.out HW10.out) ?_)
      | (refine wpList_st rfl 33 (.tmp 10) (.tmp 40) rfl P2 0 rfl (.agg (pdC pd0)) (pdC pd0) rfl rfl info_pdP (pdC_one _) HM10.out (Nat.le_of_ble_eq_true rfl) (pd_all _ _) ?_; intro w11 hst11; refine Hid.out ?_))
    refine Lib.hid ?_
    have HO11 := Lib.hid (HO10.out.block (hst11.2.2 g8 (by omega)))
    have HB11 : Hid (Below w.heap.size w w11) := Lib.hid (HB10.out.trans (hst11.2.1 _ hwP2))
    clear hst11 HM10 HO10 HB10
    go_wp2_with fail
    refine (twin_any (some ⟨g8, 0, none⟩) N c8 z _ HO11.out.rd (fun e => by cases e) (by omega)).mono ?_
    rintro e w12 ⟨g12, c12, rfl, hg12, ho12, hb12⟩
    have HO12 := Lib.hid (ho12.ownB (base := w11.heap.size) hg12)
    have HB12 := Lib.hid (HB11.out.trans (hb12.mono HB11.out.size))
    have HBw := Lib.hid hb12
    have HR12 := Lib.hid ((HR1.out.below HB12.out rfl).cut 200 (by omega))
    have hA12 := HA1.out
    have HA12 : Hid (a1 = none → 200 = 0 ∧ cap1 = 0) := Lib.hid (fun e => by have := hA12 e; omega)
    clear ho12 hb12 hA12
    go_wp2_with (first
      | (at_builtin; refine app_o rfl (.tmp 49) (.tmp 50) rfl w11 (.slice (some ⟨g12, 0, none⟩) N c12) N (vals z N) rfl HO12.out.1 HBw.out a1 200 cap1 z1 rfl HR12.out HA12.out (by omega) ?_; intro v13 w13 ho13 hb13 hs13 hk13; (rw [vals_cat] at ho13); (have HOV : OwnB w13 w11.heap.size v13 (N + 200) (cat z N z1) := ⟨ho13, cat_bd HO12.out.2 HR12.out.2⟩); (obtain ⟨A13, c13, rfl, hc13, hm13, _, hr13⟩ := HOV.shape)))
    have HB13 := Lib.hid (HB11.out.trans (hb13.mono HB11.out.size))
    have HRd := Lib.hid (HCM'.out A13 c13 w13 hr13 hc13 hm13)
    clear ho13 hb13 hs13 hk13 hr13 HOV hm13
    refine HRd.out.mono ?_
    rintro e w14 ⟨x14, E14, rfl, hE, hb14⟩
    have HB14 := Lib.hid (HB13.out.trans (hb14.mono HB13.out.size))
    obtain ⟨P3, hP3⟩ : ∃ P3, w14.heap.size = P3 := ⟨_, rfl⟩
    obtain ⟨W15, hW15⟩ : ∃ W15, w14.alloc (.cells (pdC pd0) 33) = W15 := ⟨_, rfl⟩
    have HM15 : Hid (PdT 33 W15 P3 pd0) := Lib.hid (by rw [← hW15, ← hP3]; exact heap_alloc_new w14 _)
    have HB15 : Hid (Below w.heap.size w W15) := Lib.hid (by rw [← hW15]; exact HB14.out.alloc HB14.out.size _)
    have hwP3 : w.heap.size ≤ P3 := by rw [← hP3]; exact HB14.out.size
    have HP3 := Lib.hid hP3
    have HW15 := Lib.hid hW15
    clear hb14 hP3 hW15
    go_wp2_with (first
      | (refine wpList_v (op := ⟨some 12, _, _, _, _, _⟩) rfl _ (alloc_P' _ _ rfl w14 W15 P3 HP3.out HW15.out) ?_)
      | (refine wpList_st rfl 33 (.tmp 12) (.tmp 53) rfl P3 0 rfl (.agg (pdC x14)) (pdC x14) rfl rfl info_pdP (pdC_one _) HM15.out (Nat.le_of_ble_eq_true rfl) (pd_all _ _) ?_; intro w16 hst16; refine Hid.out ?_))
    refine Lib.hid ?_
    have HB16 : Hid (Below w.heap.size w w16) := Lib.hid (HB15.out.trans (hst16.2.1 _ hwP3))
    clear hst16 HM15 HB15
    rcases hE with ⟨h0, rfl⟩ | ⟨h0, rfl⟩ | ⟨h0, hbig, rfl⟩
    · exact absurd h0 (by decide)
    · go_wp2_with fail
      go_ret
      exact ⟨rfl, HB16.out⟩
    · have hbI : (1492 : Int) < (N : Int) + 200 := by omega
      go_wp2_with fail
      go_ret
      exact ⟨rfl, HB16.out⟩
  · have hNz := wr_noN (by rw [HXX.out]; exact hX0)
    rw [hNz]
    have hXb : (XX != 0) = true := by simpa using hX0
    go_wp2_with fail
    go_ret
    exact ⟨rfl, HB8.out⟩
end Go.Proofs.Ytigkmcbkckfhbaa
