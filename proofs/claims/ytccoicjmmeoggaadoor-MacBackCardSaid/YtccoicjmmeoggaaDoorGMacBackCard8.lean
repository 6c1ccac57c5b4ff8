/- Texts of this claim put together; each theorem states its conditions. -/
import Derived.Test.YtccoicjmmeoggaaDoorGMacBackCard7
/- The walk of MacBack: for every input the law returns true, and nothing that was there is written, if the table lies as the text lays it. -/
namespace Go.Proofs.YtccoicjmmeoggaaDoor
open Go.RowKit
set_option linter.unusedVariables false
set_option linter.unusedSimpArgs false

theorem pl2_life (p : Pd) (n : Nat) : putMany (pdC (plQ 2 p)) 19 (#[.int .i64 (n : Int)] : Array Value).toList = pdC (pl2 (setL p n)) := by
  rw [show plQ 2 p = pl2 p from rfl]
  rfl
set_option maxHeartbeats 40000000 in
set_option maxRecDepth 100000 in
theorem walkMacBack (p : Pd) (L : Nat → It) (t : It) (A2 : Option Addr) (m2 c2 : Nat) (K2 : Nat → It) (nn : Int) (w : World) (hin : InP w p L) (hke : KeOk w t) (hk2 : RdK w A2 m2 K2 ∧ (A2 = none → m2 = 0 ∧ c2 = 0) ∧ m2 ≤ c2 ∧ c2 * 32 ≤ 140737488351232) (hnn : (Lit.int .u16 nn).wf = true) (hg : Rts w 0) :
    Calls Tryd.prog 6 #[.agg (pdC p), .agg (kC t), .slice A2 m2 c2, .int .u16 nn] w fun e w' => e = .returned (.bool true) ∧ Below w.heap.size w w' := by
  obtain ⟨hp, hR, hA, hmc, h32⟩ := hin
  obtain ⟨ty, A, sn, sc, k⟩ := t
  obtain ⟨⟨hty1, hty2⟩, hk, hkA, hkn⟩ := hke
  dsimp only at hty1 hty2 hk hkA hkn
  have hnn2 : 0 ≤ nn ∧ nn ≤ 65535 := wf_u16 hnn
  obtain ⟨id, rfl⟩ : ∃ id : Nat, ty = (id : Int) := ⟨ty.toNat, by omega⟩
  obtain ⟨nt, rfl⟩ : ∃ nt : Nat, nn = (nt : Int) := ⟨nn.toNat, by omega⟩
  have hntb : nt ≤ 65535 := by omega
  have hwn := wI nt (by omega)
  have hid : id ≤ 65535 := by omega
  obtain ⟨m0, hm⟩ := jends (slT L p.m id nou) (p.m + 1)
  obtain ⟨b, hb⟩ := hasSig_ex L p.m
  obtain ⟨N9, hN9⟩ : ∃ N, seN p L m0 id sn b = N := ⟨_, rfl⟩
  obtain ⟨X9, hX9⟩ : ∃ N, seX p L m0 id sn b = N := ⟨_, rfl⟩
  obtain ⟨Z9, hZ9⟩ : ∃ N, seZ p L m0 id k sn b = N := ⟨_, rfl⟩
  have HP := Lib.hid hp
  have HM := Lib.hid hm
  have HR0 := Lib.hid hR
  have HA := Lib.hid hA
  have H32 : Hid (p.m * 32 ≤ 140737488351232) := Lib.hid (by omega)
  have HID := Lib.hid hid
  have HKEY : Hid (KeOk w ⟨(id : Int), A, sn, sc, k⟩) := Lib.hid ⟨⟨hty1, hty2⟩, hk, hkA, hkn⟩
  have HBB := Lib.hid hb
  have HK2 := Lib.hid hk2.1
  have hm32 : m2 * 32 ≤ 140737488351232 := by omega
  have HM32 := Lib.hid hm32
  have RT := Lib.hid hg
  have HSP := Lib.hid (And.intro hN9 (And.intro hX9 hZ9))
  have hg9 := hg.2
  clear hp hm hR hA h32 hid hk hkA hb hg hN9 hX9 hZ9 hmc hty1 hty2 hkn hnn hnn2 hk2 hm32
  go_enter Tryd.func6, Tryd.ntmps6
  have HB := Lib.hid (Below.refl w.heap.size w)
  obtain ⟨N1, hN1⟩ : ∃ N, w.heap.size = N := ⟨_, rfl⟩
  have HN1 := Lib.hid hN1
  clear hN1
  go_wp2_with (refine wpList_box (op := ⟨some 4, _, _, _, _, _⟩) rfl 42 (.tmp 0) rfl (pdC p) rfl N1 HN1.out ?_; intro w1 k1 b1 s1; refine Hid.out ?_)
  refine Lib.hid ?_
  have KP := Lib.hid k1
  clear k1
  have lt_0_N1 : 0 < N1 := by rw [← HN1.out]; exact RT.out.lt
  have le_HB_N1 : w.heap.size ≤ N1 := by rw [← HN1.out]; exact HB.out.size
  have RTn := Lib.hid (RT.out.below b1 RT.out.lt)
  clear RT
  have RT := RTn
  clear RTn
  have HBn := Lib.hid (HB.out.trans (b1.mono HB.out.size))
  clear HB
  have HB := HBn
  clear HBn
  clear b1 HN1
  obtain ⟨N2, hN2⟩ : ∃ N, w1.heap.size = N := ⟨_, rfl⟩
  have HN2 := Lib.hid hN2
  clear hN2
  go_wp2_with (refine wpList_box (op := ⟨some 5, _, _, _, _, _⟩) rfl 45 (.tmp 1) rfl (kC ⟨(id : Int), A, sn, sc, k⟩) rfl N2 HN2.out ?_; intro w2 k1 b1 s1; refine Hid.out ?_)
  refine Lib.hid ?_
  have KK := Lib.hid k1
  clear k1
  have lt_0_N2 : 0 < N2 := by rw [← HN2.out]; exact RT.out.lt
  have lt_N1_N2 : N1 < N2 := by rw [← HN2.out]; exact KP.out.lt
  have le_HB_N2 : w.heap.size ≤ N2 := by rw [← HN2.out]; exact HB.out.size
  have RTn := Lib.hid (RT.out.below b1 RT.out.lt)
  clear RT
  have RT := RTn
  clear RTn
  have KPn := Lib.hid (KP.out.below b1 KP.out.lt)
  clear KP
  have KP := KPn
  clear KPn
  have HBn := Lib.hid (HB.out.trans (b1.mono HB.out.size))
  clear HB
  have HB := HBn
  clear HBn
  clear b1 HN2
  go_wp2_with fail
  refine (awakeH_any w2 RT.out).mono ?_
  rintro e w10 ⟨rfl, b1⟩
  have RTn := Lib.hid (RT.out.below b1 RT.out.lt)
  clear RT
  have RT := RTn
  clear RTn
  have KPn := Lib.hid (KP.out.below b1 KP.out.lt)
  clear KP
  have KP := KPn
  clear KPn
  have KKn := Lib.hid (KK.out.below b1 KK.out.lt)
  clear KK
  have KK := KKn
  clear KKn
  have HBn := Lib.hid (HB.out.trans (b1.mono HB.out.size))
  clear HB
  have HB := HBn
  clear HBn
  clear b1
  go_wp2_with (refine wpList_ld (op := ⟨some 26, _, _, _, _, _⟩) (by rfl) 42 (.tmp 4) rfl N1 0 rfl (pdC p) _ KP.out.all Tryd.underlying42 rfl info_pdR ?_; refine Hid.out ?_)
  refine Lib.hid ?_
  obtain ⟨N11, hN11⟩ : ∃ N, w10.heap.size = N := ⟨_, rfl⟩
  have HN11 := Lib.hid hN11
  clear hN11
  go_wp2_with (refine wpList_new (op := ⟨some 9, _, _, _, _, _⟩) rfl 46 rfl (pdC pd0) zero_pdP N11 HN11.out ?_; intro w11 k1 b1 s1; refine Hid.out ?_)
  refine Lib.hid ?_
  have K5 := Lib.hid k1
  clear k1
  have lt_0_N11 : 0 < N11 := by rw [← HN11.out]; exact RT.out.lt
  have lt_N1_N11 : N1 < N11 := by rw [← HN11.out]; exact KP.out.lt
  have lt_N2_N11 : N2 < N11 := by rw [← HN11.out]; exact KK.out.lt
  have le_HB_N11 : w.heap.size ≤ N11 := by rw [← HN11.out]; exact HB.out.size
  have RTn := Lib.hid (RT.out.below b1 RT.out.lt)
  clear RT
  have RT := RTn
  clear RTn
  have KPn := Lib.hid (KP.out.below b1 KP.out.lt)
  clear KP
  have KP := KPn
  clear KPn
  have KKn := Lib.hid (KK.out.below b1 KK.out.lt)
  clear KK
  have KK := KKn
  clear KKn
  have HBn := Lib.hid (HB.out.trans (b1.mono HB.out.size))
  clear HB
  have HB := HBn
  clear HBn
  clear b1 HN11
  go_wp2_with (refine wpList_st rfl 46 (.tmp 9) (.tmp 26) rfl N11 0 rfl (.agg (pdC p)) (pdC p) rfl rfl info_pdP (pdC_one _) K5.out (Nat.le_of_ble_eq_true rfl) (C' := pdC p) (pd_over _ _) ?_; intro w20 q1; refine Hid.out ?_)
  refine Lib.hid ?_
  have RTn := Lib.hid (RT.out.far q1 (by omega))
  clear RT
  have RT := RTn
  clear RTn
  have KPn := Lib.hid (KP.out.far q1 (by omega))
  clear KP
  have KP := KPn
  clear KPn
  have KKn := Lib.hid (KK.out.far q1 (by omega))
  clear KK
  have KK := KKn
  clear KKn
  have HBn := Lib.hid (HB.out.trans (q1.2.1 _ (by omega)))
  clear HB
  have HB := HBn
  clear HBn
  have K5n : Hid (Blk 46 w20 N11 (pdC p)) := Lib.hid q1.1
  clear K5
  have K5 := K5n
  clear K5n q1
  have cp : w20.cell? ⟨N1, 46, none⟩ = some (.slice p.A p.m p.c) := (KP.out.cell 46).trans rfl
  go_wp2_with fail
  clear cp
  refine (twinT_any p.A p.m p.c L w20 (HR0.out.below HB.out) H32.out).mono ?_
  rintro e w30 ⟨v25, L2, rfl, ho, hal, b1⟩
  obtain ⟨A9, c9, rfl, hmc9, hcx9, hA9, _⟩ := ho.shape
  have HO := Lib.hid ho
  have HAL := Lib.hid hal
  have HA9 := Lib.hid (And.intro hA9 (And.intro hmc9 hcx9))
  clear ho hal hA9 hmc9 hcx9
  have RTn := Lib.hid (RT.out.below b1 RT.out.lt)
  clear RT
  have RT := RTn
  clear RTn
  have KPn := Lib.hid (KP.out.below b1 KP.out.lt)
  clear KP
  have KP := KPn
  clear KPn
  have KKn := Lib.hid (KK.out.below b1 KK.out.lt)
  clear KK
  have KK := KKn
  clear KKn
  have K5n := Lib.hid (K5.out.below b1 K5.out.lt)
  clear K5
  have K5 := K5n
  clear K5n
  have HBn := Lib.hid (HB.out.trans (b1.mono HB.out.size))
  clear HB
  have HB := HBn
  clear HBn
  clear b1
  go_wp2_with (refine wpList_st rfl 40 (.tmp 30) (.tmp 29) rfl N11 46 rfl (.slice A9 p.m c9) (#[.slice A9 p.m c9]) rfl rfl info_lt one_sl K5.out (Nat.le_of_ble_eq_true rfl) (C' := pdC (withT p A9 p.m c9)) (pd_put _ _ _ _) ?_; intro w40 q1; refine Hid.out ?_)
  refine Lib.hid ?_
  have HO3 := Lib.hid (OwnT.farT HO.out K5.out q1)
  have RTn := Lib.hid (RT.out.far q1 (by omega))
  clear RT
  have RT := RTn
  clear RTn
  have KPn := Lib.hid (KP.out.far q1 (by omega))
  clear KP
  have KP := KPn
  clear KPn
  have KKn := Lib.hid (KK.out.far q1 (by omega))
  clear KK
  have KK := KKn
  clear KKn
  have HBn := Lib.hid (HB.out.trans (q1.2.1 _ (by omega)))
  clear HB
  have HB := HBn
  clear HBn
  have K5n : Hid (Blk 46 w40 N11 (pdC (withT p A9 p.m c9))) := Lib.hid q1.1
  clear K5
  have K5 := K5n
  clear K5n q1
  clear HO
  have HO : Hid (TwO w40 w20.heap.size (.slice A9 p.m c9) p.m L2) := Lib.hid HO3.out
  clear HO3
  go_wp2_with (refine wpList_ld (op := ⟨some 32, _, _, _, _, _⟩) (by rfl) 46 (.tmp 9) rfl N11 0 rfl (pdC (withT p A9 p.m c9)) _ K5.out.all Tryd.underlying46 rfl info_pdP ?_; refine Hid.out ?_)
  refine Lib.hid ?_
  go_wp2_with (refine wpList_ld (op := ⟨some 33, _, _, _, _, _⟩) (by rfl) 45 (.tmp 5) rfl N2 0 rfl (kC ⟨(id : Int), A, sn, sc, k⟩) _ KK.out.all Tryd.underlying45 rfl info_key ?_; refine Hid.out ?_)
  refine Lib.hid ?_
  go_wp2_with fail
  have HSE := Lib.hid (seal_al p HP.out L L2 A9 c9 m0 id A sn sc k b HAL.out HM.out w40 (by obtain ⟨A8, c8, e8, _, _, _, h8⟩ := OwnT.shape HO.out; injection e8 with e8 _ _; rw [e8]; exact h8) (fun e => (HA9.out.1 e)) H32.out HID.out (HKEY.out.below HB.out).2.1 (HKEY.out).2.2.1 HBB.out RT.out)
  rw [HSP.out.1, HSP.out.2.1, HSP.out.2.2] at HSE
  have hlt5 := K5.out.lt
  refine HSE.out.mono ?_
  rintro e w50 ⟨AU, cu, rfl, hu1, hu2, hu3, b1, hu4⟩
  have RTn := Lib.hid (RT.out.below b1 RT.out.lt)
  clear RT
  have RT := RTn
  clear RTn
  have KPn := Lib.hid (KP.out.below b1 KP.out.lt)
  clear KP
  have KP := KPn
  clear KPn
  have KKn := Lib.hid (KK.out.below b1 KK.out.lt)
  clear KK
  have KK := KKn
  clear KKn
  have K5n := Lib.hid (K5.out.below b1 K5.out.lt)
  clear K5
  have K5 := K5n
  clear K5n
  have HBn := Lib.hid (HB.out.trans (b1.mono HB.out.size))
  clear HB
  have HB := HBn
  clear HBn
  have HCU := Lib.hid (And.intro hu2 hu3)
  have HGU := Lib.hid hu4
  clear hu1 hu2 hu3 hu4 b1 HSE HO HAL HA9
  by_cases hX0 : X9 = 0
  · subst hX0
    have hXb : ((0 : Int) != 0) = false := rfl
    have hb := seX_f HSP.out.2.1
    subst hb
    have hsn := seX_s HSP.out.2.1
    have HSN := Lib.hid hsn
    have hns : NoSig L p.m := (HBB.out.resolve_left (fun h => by cases h.1)).2
    have HNS := Lib.hid hns
    obtain ⟨q, N, F, hF, hsl⟩ : ∃ q N F, F = pdZ (slP p) q (slT L p.m id (seM p L m0 id k sn)) ∧ Sl p L m0 id sn k q N F := ⟨_, _, _, rfl, sealedF p HP.out L m0 id sn k w HR0.out HM.out HSP.out.2.1 HID.out⟩
    have hN9 : N9 = N := by rw [← HSP.out.1]; unfold seN; rw [if_pos HSP.out.2.1]; exact hsl.hn
    subst hN9
    have HSL := Lib.hid hsl
    have HF := Lib.hid hF
    obtain ⟨g8, rfl, hg8, ho8⟩ := HGU.out rfl
    have HY8 : Hid (ByO w50 g8 N9 cu F) := Lib.hid (own8_zz ho8 (fun j hj => by rw [← HSP.out.2.2, hsl.hz, cutN_lt _ hj]) hsl.hb)
    have hg8P : N1 < g8 ∧ N2 < g8 := by omega
    have h54 := hsl.h54
    have h92 := hsl.h92
    have hcu := HCU.out.2
    clear hsn hns hsl HGU hXb hF ho8
    clear K5
    go_wp2_with (refine wpList_ld (op := ⟨some 42, _, _, _, _, _⟩) (by rfl) 42 (.tmp 4) rfl N1 0 rfl (pdC p) _ KP.out.all Tryd.underlying42 rfl info_pdR ?_; refine Hid.out ?_)
    refine Lib.hid ?_
    go_wp2_with fail
    refine (plain_any p q HSL.out.hq HSL.out.hq4 w50).mono ?_
    rintro e w55 ⟨rfl, b1⟩
    have RTn := Lib.hid (RT.out.below b1 RT.out.lt)
    clear RT
    have RT := RTn
    clear RTn
    have KPn := Lib.hid (KP.out.below b1 KP.out.lt)
    clear KP
    have KP := KPn
    clear KPn
    have KKn := Lib.hid (KK.out.below b1 KK.out.lt)
    clear KK
    have KK := KKn
    clear KKn
    have HY8n := Lib.hid (HY8.out.below b1)
    clear HY8
    have HY8 := HY8n
    clear HY8n
    have HBn := Lib.hid (HB.out.trans (b1.mono HB.out.size))
    clear HB
    have HB := HBn
    clear HBn
    clear b1
    obtain ⟨N56, hN56⟩ : ∃ N, w55.heap.size = N := ⟨_, rfl⟩
    have HN56 := Lib.hid hN56
    clear hN56
    go_wp2_with (refine wpList_new (op := ⟨some 12, _, _, _, _, _⟩) rfl 42 rfl (pdC pd0) zero_pdR N56 HN56.out ?_; intro w56 k1 b1 s1; refine Hid.out ?_)
    refine Lib.hid ?_
    have K12 := Lib.hid k1
    have lt_g8_N56 : g8 < N56 := by rw [← HN56.out]; exact Own8.lt HY8.out
    have hNK12 := Lib.hid (Nat.le_of_eq HN56.out)
    have hbx := Lib.hid b1
    clear k1
    have lt_0_N56 : 0 < N56 := by rw [← HN56.out]; exact RT.out.lt
    have lt_N1_N56 : N1 < N56 := by rw [← HN56.out]; exact KP.out.lt
    have lt_N2_N56 : N2 < N56 := by rw [← HN56.out]; exact KK.out.lt
    have le_HB_N56 : w.heap.size ≤ N56 := by rw [← HN56.out]; exact HB.out.size
    have RTn := Lib.hid (RT.out.below b1 RT.out.lt)
    clear RT
    have RT := RTn
    clear RTn
    have KPn := Lib.hid (KP.out.below b1 KP.out.lt)
    clear KP
    have KP := KPn
    clear KPn
    have KKn := Lib.hid (KK.out.below b1 KK.out.lt)
    clear KK
    have KK := KKn
    clear KKn
    have HBn := Lib.hid (HB.out.trans (b1.mono HB.out.size))
    clear HB
    have HB := HBn
    clear HBn
    clear b1 HN56
    go_wp2_with (refine wpList_st rfl 42 (.tmp 12) (.tmp 43) rfl N56 0 rfl (.agg (pdC (plQ q p))) (pdC (plQ q p)) rfl rfl info_pdR (pdC_one _) K12.out (Nat.le_of_ble_eq_true rfl) (C' := pdC (plQ q p)) (pd_over _ _) ?_; intro w60 q1; refine Hid.out ?_)
    refine Lib.hid ?_
    have hby := Lib.hid (hbx.out.trans (q1.2.1 _ hNK12.out))
    have RTn := Lib.hid (RT.out.far q1 (by omega))
    clear RT
    have RT := RTn
    clear RTn
    have KPn := Lib.hid (KP.out.far q1 (by omega))
    clear KP
    have KP := KPn
    clear KPn
    have KKn := Lib.hid (KK.out.far q1 (by omega))
    clear KK
    have KK := KKn
    clear KKn
    have HBn := Lib.hid (HB.out.trans (q1.2.1 _ (by omega)))
    clear HB
    have HB := HBn
    clear HBn
    have K12n : Hid (Blk 42 w60 N56 (pdC (plQ q p))) := Lib.hid q1.1
    clear K12
    have K12 := K12n
    clear K12n q1
    have HY8n : Hid (ByO w60 g8 N9 cu F) := Lib.hid (HY8.out.below hby.out)
    clear HY8
    have HY8 := HY8n
    clear HY8n
    clear hby hbx hNK12
    have cp : w60.cell? ⟨N1, 0, none⟩ = some (.int .u8 p.kd) := (KP.out.cell 0).trans rfl
    go_wp2_with fail
    clear cp
    refine (lsp_q p.kd q HSL.out.hq HSL.out.hq4 w60).mono ?_
    rintro e w61 ⟨rfl, rfl⟩
    go_upto_if 46 with (fail)
    go_cut [] (fun wc => ∃ F9 W9, Hid (Bk p q N9 F F9 W9) ∧ Hid (ByO wc g8 N9 cu F9) ∧ Hid (Blk 42 wc N56 (pdC W9)) ∧ Hid (Rts wc 0 ) ∧ Hid (Blk 42 wc N1 (pdC p)) ∧ Hid (Blk 45 wc N2 (kC ⟨(id : Int), A, sn, sc, k⟩)) ∧ Hid (Below w.heap.size w wc))
    case first =>
      by_cases hq2 : q = 2
      · subst hq2
        have hd : decide (2 = 2) = true := rfl
        have hi10 : (10 : Int) < (N9 : Int) := by omega
        have hi11 : (11 : Int) < (N9 : Int) := by omega
        have le_HB_g8 : w.heap.size ≤ g8 := by omega
        go_wp2_with (refine wpList_put8 rfl (.tmp 54) (.tmp 51) rfl g8 10 rfl ((nt : Int) / 256) rfl ⟨by omega, by omega⟩ HY8.out (by omega) ?_; intro w70 C9 q1 ho9; refine Hid.out ?_)
        refine Lib.hid ?_
        have RTn := Lib.hid (RT.out.far q1 (by omega))
        clear RT
        have RT := RTn
        clear RTn
        have KPn := Lib.hid (KP.out.far q1 (by omega))
        clear KP
        have KP := KPn
        clear KPn
        have KKn := Lib.hid (KK.out.far q1 (by omega))
        clear KK
        have KK := KKn
        clear KKn
        have K12n := Lib.hid (K12.out.far q1 (by omega))
        clear K12
        have K12 := K12n
        clear K12n
        have HBn := Lib.hid (HB.out.trans (q1.2.1 _ (by omega)))
        clear HB
        have HB := HBn
        clear HBn
        have HY9 := Lib.hid ho9
        clear HY8 q1 ho9
        have HY8 : Hid (ByO w70 g8 N9 cu (upd F 10 ((nt : Int) / 256))) := Lib.hid HY9.out
        clear HY9
        go_wp2_with (refine wpList_put8 rfl (.tmp 55) (.tmp 53) rfl g8 11 rfl ((nt : Int) % 256) rfl ⟨by omega, by omega⟩ HY8.out (by omega) ?_; intro w75 C9 q1 ho9; refine Hid.out ?_)
        refine Lib.hid ?_
        have RTn := Lib.hid (RT.out.far q1 (by omega))
        clear RT
        have RT := RTn
        clear RTn
        have KPn := Lib.hid (KP.out.far q1 (by omega))
        clear KP
        have KP := KPn
        clear KPn
        have KKn := Lib.hid (KK.out.far q1 (by omega))
        clear KK
        have KK := KKn
        clear KKn
        have K12n := Lib.hid (K12.out.far q1 (by omega))
        clear K12
        have K12 := K12n
        clear K12n
        have HBn := Lib.hid (HB.out.trans (q1.2.1 _ (by omega)))
        clear HB
        have HB := HBn
        clear HBn
        have HY9 := Lib.hid ho9
        clear HY8 q1 ho9
        have HY8 : Hid (ByO w75 g8 N9 cu (upd (upd F 10 ((nt : Int) / 256)) 11 ((nt : Int) % 256))) := Lib.hid HY9.out
        clear HY9
        go_wp2_with (refine wpList_st rfl 3 (.tmp 58) (.tmp 57) rfl N56 19 rfl (.int .i64 (nt : Int)) (#[.int .i64 (nt : Int)]) rfl rfl (by kernel_rfl) (by kernel_rfl) K12.out (Nat.le_of_ble_eq_true rfl) (C' := pdC (pl2 (setL p nt))) (pl2_life p nt) ?_; intro w80 q1; refine Hid.out ?_)
        refine Lib.hid ?_
        have HY9 : Hid (ByO w80 g8 N9 cu (upd (upd F 10 ((nt : Int) / 256)) 11 ((nt : Int) % 256))) := Lib.hid (Own8.block HY8.out (q1.2.2 g8 (by omega)))
        have RTn := Lib.hid (RT.out.far q1 (by omega))
        clear RT
        have RT := RTn
        clear RTn
        have KPn := Lib.hid (KP.out.far q1 (by omega))
        clear KP
        have KP := KPn
        clear KPn
        have KKn := Lib.hid (KK.out.far q1 (by omega))
        clear KK
        have KK := KKn
        clear KKn
        have HBn := Lib.hid (HB.out.trans (q1.2.1 _ (by omega)))
        clear HB
        have HB := HBn
        clear HBn
        have K12n : Hid (Blk 42 w80 N56 (pdC (pl2 (setL p nt)))) := Lib.hid q1.1
        clear K12
        have K12 := K12n
        clear K12n q1
        clear HY8
        have HY8 := HY9
        clear HY9
        go_wp2_with fail
        go_meet
        case rel => exact ⟨upd (upd F 10 ((nt : Int) / 256)) 11 ((nt : Int) % 256), pl2 (setL p nt), Lib.hid (bk_life HSL.out HP.out HF.out ((cls_2 _).1 HSL.out.hq) nt hntb), HY8, K12, RT, KP, KK, HB⟩
      · have hd : decide (q = 2) = false := by simpa using hq2
        go_wp2_with fail
        go_meet
        case rel => exact ⟨F, plQ q p, Lib.hid (bk_self HSL.out), HY8, K12, RT, KP, KK, HB⟩
    case rest =>
    clear RT
    clear KP
    clear KK
    clear K12
    clear HB
    clear HY8
    obtain ⟨F9, W9, HBK, HY8, K12, RT, KP, KK, HB⟩ := hcut
    have HWC := Lib.hid (Nat.le_refl wc.heap.size)
    go_wp2_with fail
    go_loopw [13, 61] (fun v i wr => ∃ (kk ms : Nat) (KS : Nat → It), kk ≤ m2 ∧ i = .int .i64 kk ∧ ms ≤ kk ∧ Hid (RwO wr wc.heap.size v ms KS) ∧ Hid (StG w id ms KS) ∧ Hid (Below wc.heap.size wc wr)) (fun _ i _ => m2 - (intOf i).toNat)
    case atStart => exact ⟨0, 0, K2, by omega, rfl, by omega, Lib.hid (RwK.nil _ _ _), Lib.hid (StG.nil _ _ _), Lib.hid (Below.refl _ _)⟩
    case round =>
      obtain ⟨kk, ms, KS, hk, rfl, hms, HRW, HSG, HC⟩ := hrel
      by_cases hlt : kk < m2
      · have hki : (kk : Int) < (m2 : Int) := by omega
        have HBW := Lib.hid (HB.out.trans (HC.out.mono HB.out.size))
        obtain ⟨b, off, rfl, hr⟩ := (HK2.out.below HBW.out).1.row (by omega)
        have hr2 := Lib.hid (hr.2 kk hlt)
        have HKE := Lib.hid (HK2.out.2 kk hlt)
        clear hr
        obtain ⟨t, ht⟩ : ∃ t, K2 kk = t := ⟨_, rfl⟩
        rw [show kR K2 kk = kC t from by unfold kR; rw [ht]] at hr2
        rw [ht] at HKE
        clear ht
        have hbb : b < wr.heap.size := by
          obtain ⟨b2, off2, e2, hr3⟩ := (HK2.out.below HBW.out).1.row (by omega)
          injection e2 with e2; injection e2 with e2 _ _; subst e2; exact hr3.1
        have KKr := Lib.hid (KK.out.below HC.out KK.out.lt)
        go_wp2_with (refine wpList_ld (op := ⟨some 65, _, _, _, _, _⟩) (by rfl) 45 (.tmp 64) rfl b (off + kk * 2) rfl (kC t) _ hr2.out Tryd.underlying45 rfl info_key ?_; refine Hid.out ?_)
        refine Lib.hid ?_
        clear hr2
        obtain ⟨N111, hN111⟩ : ∃ N, wr.heap.size = N := ⟨_, rfl⟩
        have HN111 := Lib.hid hN111
        clear hN111
        go_wp2_with (refine wpList_new (op := ⟨some 15, _, _, _, _, _⟩) rfl 45 rfl (#[.int .u16 0, .slice none 0 0]) zero_key N111 HN111.out ?_; intro w111 k1 b1 s1; refine Hid.out ?_)
        refine Lib.hid ?_
        have K15 := Lib.hid k1
        have HBN := Lib.hid b1
        have hN15 := Nat.le_of_eq HN111.out
        clear k1
        have lt_N2_N111 : N2 < N111 := by rw [← HN111.out]; exact KKr.out.lt
        have le_HC_N111 : wc.heap.size ≤ N111 := by rw [← HN111.out]; exact HC.out.size
        have KKrn := Lib.hid (KKr.out.below b1 KKr.out.lt)
        clear KKr
        have KKr := KKrn
        clear KKrn
        have HCn := Lib.hid (HC.out.trans (b1.mono HC.out.size))
        clear HC
        have HC := HCn
        clear HCn
        clear b1 HN111
        go_wp2_with (refine wpList_st rfl 45 (.tmp 15) (.tmp 65) rfl N111 0 rfl (.agg (kC t)) (kC t) rfl rfl info_key (kC_one _) K15.out (Nat.le_of_ble_eq_true rfl) (C' := kC t) (by rfl) ?_; intro w120 q1; refine Hid.out ?_)
        refine Lib.hid ?_
        have HRWn : Hid (RwO w120 wc.heap.size u13 ms KS) := Lib.hid (RwO.below HRW.out (HBN.out.trans (q1.2.1 _ hN15)))
        clear HRW HBN hN15
        have HRW := HRWn
        clear HRWn
        have KKrn := Lib.hid (KKr.out.far q1 (by omega))
        clear KKr
        have KKr := KKrn
        clear KKrn
        have HCn := Lib.hid (HC.out.trans (q1.2.1 _ (by omega)))
        clear HC
        have HC := HCn
        clear HCn
        have K15n : Hid (Blk 45 w120 N111 (kC t)) := Lib.hid q1.1
        clear K15
        have K15 := K15n
        clear K15n q1
        have c0 : w120.cell? ⟨N111, 0, none⟩ = some (.int .u16 t.ty) := (K15.out.cell 0).trans rfl
        have c1 : w120.cell? ⟨N111, 1, none⟩ = some (.slice t.A t.n t.c) := (K15.out.cell 1).trans rfl
        have ck : w120.cell? ⟨N2, 0, none⟩ = some (.int .u16 (id : Int)) := (KKr.out.cell 0).trans rfl
        by_cases h1 : kk < 6
        · skip
          have h1i : (kk : Int) < 6 := by omega
          by_cases h2 : t.ty ≠ (id : Int)
          · skip
            have h1i : (kk : Int) < 6 := by omega
            have h2b : (t.ty != (id : Int)) = true := by simpa using h2
            by_cases h3 : 0 < t.n
            · skip
              have h3i : (0 : Int) < (t.n : Int) := by omega
              by_cases h4 : t.n ≤ 64
              · skip
                have h4i : (t.n : Int) ≤ 64 := by omega
                go_wp2_with (refine wpList_ld (op := ⟨some 88, _, _, _, _, _⟩) (by rfl) 45 (.tmp 15) rfl N111 0 rfl (kC t) _ K15.out.all Tryd.underlying45 rfl info_key ?_; refine Hid.out ?_)
                refine Lib.hid ?_
                clear c0 c1 ck
                obtain ⟨N121, hN121⟩ : ∃ N, w120.heap.size = N := ⟨_, rfl⟩
                have HN121 := Lib.hid hN121
                clear hN121
                go_wp2_with (refine wpList_bsn (op := ⟨some 89, _, _, _, _, _⟩) 1 rfl 45 (kC t) (bs_key _ _ _ rfl t rfl) N121 HN121.out ?_; intro w121 k1 b1 s1; refine Hid.out ?_)
                refine Lib.hid ?_
                have KQ := Lib.hid k1
                clear k1
                have lt_N2_N121 : N2 < N121 := by rw [← HN121.out]; exact KKr.out.lt
                have lt_N111_N121 : N111 < N121 := by rw [← HN121.out]; exact K15.out.lt
                have le_HC_N121 : wc.heap.size ≤ N121 := by rw [← HN121.out]; exact HC.out.size
                have KKrn := Lib.hid (KKr.out.below b1 KKr.out.lt)
                clear KKr
                have KKr := KKrn
                clear KKrn
                have K15n := Lib.hid (K15.out.below b1 K15.out.lt)
                clear K15
                have K15 := K15n
                clear K15n
                have HRWn := Lib.hid (HRW.out.below b1)
                clear HRW
                have HRW := HRWn
                clear HRWn
                have HCn := Lib.hid (HC.out.trans (b1.mono HC.out.size))
                clear HC
                have HC := HCn
                clear HCn
                clear b1 HN121
                go_wp2_with (at_builtin; refine wpList_kq (op := ⟨some 90, _, _, _, _, _⟩) rfl (.tmp 87) (.tmp 89) rfl rfl HRW.out rfl (fun e => by cases e) (rdK_one KQ.out ((HKE.out.below HB.out).below HC.out)).1 (by have := HM32.out; omega) HC.out.size ?_; intro v9 w9 hr9 hb9; refine Hid.out ?_)
                refine Lib.hid ?_
                have HR9 : Hid (RwO w9 wc.heap.size v9 (ms + 1) (catT KS ms fun _ => t)) := Lib.hid hr9
                have HC9 := Lib.hid (HC.out.trans hb9)
                clear hr9 hb9 HRW HC KQ K15 KKr
                have hm32 := HM32.out
                have HSG9 := Lib.hid (StG.push HSG.out (by omega) ⟨HKE.out, by assumption, by omega, by omega⟩)
                go_wp2_with fail
                go_roundw
                case rel => exact ⟨kk + 1, ms + 1, _, by omega, by go_num, by omega, HR9, HSG9, HC9⟩
                case measure => simp only [intOf]; omega
              · skip
                have h4i : ¬ (t.n : Int) ≤ 64 := by omega
                have hm32 := HM32.out
                go_wp2_with fail
                go_roundw
                case rel => exact ⟨kk + 1, ms, KS, by omega, by go_num, by omega, HRW, HSG, HC⟩
                case measure => simp only [intOf]; omega
            · skip
              have h3i : ¬ (0 : Int) < (t.n : Int) := by omega
              have hm32 := HM32.out
              go_wp2_with fail
              go_roundw
              case rel => exact ⟨kk + 1, ms, KS, by omega, by go_num, by omega, HRW, HSG, HC⟩
              case measure => simp only [intOf]; omega
          · skip
            have h2b : (t.ty != (id : Int)) = false := by simpa using h2
            have hm32 := HM32.out
            go_wp2_with fail
            go_roundw
            case rel => exact ⟨kk + 1, ms, KS, by omega, by go_num, by omega, HRW, HSG, HC⟩
            case measure => simp only [intOf]; omega
        · skip
          have h1i : ¬ (kk : Int) < 6 := by omega
          have hm32 := HM32.out
          go_wp2_with fail
          go_roundw
          case rel => exact ⟨kk + 1, ms, KS, by omega, by go_num, by omega, HRW, HSG, HC⟩
          case measure => simp only [intOf]; omega
      · obtain rfl : kk = m2 := by omega
        obtain ⟨AS, cS, rfl, hcs1, hcs2, hAS, hrs⟩ := RwK.shape HRW.out
        have HBW := Lib.hid (HB.out.trans (HC.out.mono HB.out.size))
        have HRS : Hid (RdK wr AS ms KS) := Lib.hid ⟨hrs, fun j hj => (HSG.out.2 j hj).1.below HBW.out⟩
        have HAS := Lib.hid hAS
        have hm6 := HSG.out.1
        clear hAS hrs hcs1 hcs2 HBW HRW
        have RTn := Lib.hid (RT.out.below HC.out RT.out.lt)
        clear RT
        have RT := RTn
        clear RTn
        have KPn := Lib.hid (KP.out.below HC.out KP.out.lt)
        clear KP
        have KP := KPn
        clear KPn
        have KKn := Lib.hid (KK.out.below HC.out KK.out.lt)
        clear KK
        have KK := KKn
        clear KKn
        have K12n := Lib.hid (K12.out.below HC.out K12.out.lt)
        clear K12
        have K12 := K12n
        clear K12n
        have HY8n := Lib.hid (HY8.out.below HC.out)
        clear HY8
        have HY8 := HY8n
        clear HY8n
        have HBn := Lib.hid (HB.out.trans (HC.out.mono HB.out.size))
        clear HB
        have HB := HBn
        clear HBn
        clear HC HWC hk hlt
        have HX := Lib.hid (Below.refl wr.heap.size wr)
        go_upto_if 94 with (fail)
        go_cut [] (fun wc => Hid (Below wr.heap.size wr wc))
        case first =>
          by_cases h0 : 0 < ms
          · have h0i : (0 : Int) < (ms : Int) := by omega
            go_wp2_with fail
            refine (twinK_any AS ms cS KS wr HRS.out (by omega)).mono ?_
            rintro e w140 ⟨v98, K7, rfl, ho, hal, b1⟩
            obtain ⟨A7, c7, rfl, _, _, _, hrd7⟩ := ho.shape
            have RTn := Lib.hid (RT.out.below b1 RT.out.lt)
            clear RT
            have RT := RTn
            clear RTn
            have KPn := Lib.hid (KP.out.below b1 KP.out.lt)
            clear KP
            have KP := KPn
            clear KPn
            have KKn := Lib.hid (KK.out.below b1 KK.out.lt)
            clear KK
            have KK := KKn
            clear KKn
            have K12n := Lib.hid (K12.out.below b1 K12.out.lt)
            clear K12
            have K12 := K12n
            clear K12n
            have HY8n := Lib.hid (HY8.out.below b1)
            clear HY8
            have HY8 := HY8n
            clear HY8n
            have HXn := Lib.hid (HX.out.trans (b1.mono HX.out.size))
            clear HX
            have HX := HXn
            clear HXn
            have HBn := Lib.hid (HB.out.trans (b1.mono HB.out.size))
            clear HB
            have HB := HBn
            clear HBn
            have HRD7 := Lib.hid hrd7
            have HAL7 := Lib.hid hal
            clear ho hal b1 hrd7
            go_wp2_with fail
            refine (bk_openS HSL.out HID.out HBK.out (some ⟨g8, 0, none⟩) cu w140 (Own8.rd HY8.out) (fun e => by cases e) HCU.out.1 HCU.out.2 RT.out A7 ms c7 K7 HRD7.out (keysE_ok (by omega) (fun j hj => by rw [← (HAL7.out j hj).2.1]; exact (HSG.out.2 j hj).2.2)) h0 (fun j hj => by rw [← (HAL7.out j hj).1]; exact (HSG.out.2 j hj).2.1)).mono ?_
            rintro e w150 ⟨rfl, b1⟩
            have RTn := Lib.hid (RT.out.below b1 RT.out.lt)
            clear RT
            have RT := RTn
            clear RTn
            have KPn := Lib.hid (KP.out.below b1 KP.out.lt)
            clear KP
            have KP := KPn
            clear KPn
            have KKn := Lib.hid (KK.out.below b1 KK.out.lt)
            clear KK
            have KK := KKn
            clear KKn
            have K12n := Lib.hid (K12.out.below b1 K12.out.lt)
            clear K12
            have K12 := K12n
            clear K12n
            have HY8n := Lib.hid (HY8.out.below b1)
            clear HY8
            have HY8 := HY8n
            clear HY8n
            have HXn := Lib.hid (HX.out.trans (b1.mono HX.out.size))
            clear HX
            have HX := HXn
            clear HXn
            have HBn := Lib.hid (HB.out.trans (b1.mono HB.out.size))
            clear HB
            have HB := HBn
            clear HBn
            clear b1 HRD7 HAL7
            obtain ⟨N151, hN151⟩ : ∃ N, w150.heap.size = N := ⟨_, rfl⟩
            have HN151 := Lib.hid hN151
            clear hN151
            go_wp2_with (refine wpList_new (op := ⟨some 16, _, _, _, _, _⟩) rfl 46 rfl (pdC pd0) zero_pdP N151 HN151.out ?_; intro w151 k1 b1 s1; refine Hid.out ?_)
            refine Lib.hid ?_
            have K16 := Lib.hid k1
            have lt_g8_N151 : g8 < N151 := by rw [← HN151.out]; exact Own8.lt HY8.out
            have hNK16 := Lib.hid (Nat.le_of_eq HN151.out)
            have hbx := Lib.hid b1
            clear k1
            have lt_0_N151 : 0 < N151 := by rw [← HN151.out]; exact RT.out.lt
            have lt_N1_N151 : N1 < N151 := by rw [← HN151.out]; exact KP.out.lt
            have lt_N2_N151 : N2 < N151 := by rw [← HN151.out]; exact KK.out.lt
            have lt_N56_N151 : N56 < N151 := by rw [← HN151.out]; exact K12.out.lt
            have le_HX_N151 : wr.heap.size ≤ N151 := by rw [← HN151.out]; exact HX.out.size
            have le_HB_N151 : w.heap.size ≤ N151 := by rw [← HN151.out]; exact HB.out.size
            have RTn := Lib.hid (RT.out.below b1 RT.out.lt)
            clear RT
            have RT := RTn
            clear RTn
            have KPn := Lib.hid (KP.out.below b1 KP.out.lt)
            clear KP
            have KP := KPn
            clear KPn
            have KKn := Lib.hid (KK.out.below b1 KK.out.lt)
            clear KK
            have KK := KKn
            clear KKn
            have K12n := Lib.hid (K12.out.below b1 K12.out.lt)
            clear K12
            have K12 := K12n
            clear K12n
            have HXn := Lib.hid (HX.out.trans (b1.mono HX.out.size))
            clear HX
            have HX := HXn
            clear HXn
            have HBn := Lib.hid (HB.out.trans (b1.mono HB.out.size))
            clear HB
            have HB := HBn
            clear HBn
            clear b1 HN151
            go_wp2_with (refine wpList_st rfl 46 (.tmp 16) (.tmp 100) rfl N151 0 rfl (.agg (pdC pd0)) (pdC pd0) rfl rfl info_pdP (pdC_one _) K16.out (Nat.le_of_ble_eq_true rfl) (C' := pdC pd0) (pd_over _ _) ?_; intro w160 q1; refine Hid.out ?_)
            refine Lib.hid ?_
            have hby := Lib.hid (hbx.out.trans (q1.2.1 _ hNK16.out))
            have RTn := Lib.hid (RT.out.far q1 (by omega))
            clear RT
            have RT := RTn
            clear RTn
            have KPn := Lib.hid (KP.out.far q1 (by omega))
            clear KP
            have KP := KPn
            clear KPn
            have KKn := Lib.hid (KK.out.far q1 (by omega))
            clear KK
            have KK := KKn
            clear KKn
            have K12n := Lib.hid (K12.out.far q1 (by omega))
            clear K12
            have K12 := K12n
            clear K12n
            have HXn := Lib.hid (HX.out.trans (q1.2.1 _ (by omega)))
            clear HX
            have HX := HXn
            clear HXn
            have HBn := Lib.hid (HB.out.trans (q1.2.1 _ (by omega)))
            clear HB
            have HB := HBn
            clear HBn
            have K16n : Hid (Blk 46 w160 N151 (pdC pd0)) := Lib.hid q1.1
            clear K16
            have K16 := K16n
            clear K16n q1
            have HY8n : Hid (ByO w160 g8 N9 cu F9) := Lib.hid (HY8.out.below hby.out)
            clear HY8
            have HY8 := HY8n
            clear HY8n
            clear hby hbx hNK16
            have c16 : w160.cell? ⟨N151, 0, none⟩ = some (.int .u8 0) := (K16.out.cell 0).trans rfl
            go_wp2_with fail
            go_meet
            case rel => exact HX
          · have h0i : ¬ (0 : Int) < (ms : Int) := by omega
            go_wp2_with fail
            go_meet
            case rel => exact HX
        case rest =>
        have RTn := Lib.hid (RT.out.below hcut.out RT.out.lt)
        clear RT
        have RT := RTn
        clear RTn
        have KPn := Lib.hid (KP.out.below hcut.out KP.out.lt)
        clear KP
        have KP := KPn
        clear KPn
        have KKn := Lib.hid (KK.out.below hcut.out KK.out.lt)
        clear KK
        have KK := KKn
        clear KKn
        have K12n := Lib.hid (K12.out.below hcut.out K12.out.lt)
        clear K12
        have K12 := K12n
        clear K12n
        have HY8n := Lib.hid (HY8.out.below hcut.out)
        clear HY8
        have HY8 := HY8n
        clear HY8n
        have HBn := Lib.hid (HB.out.trans (hcut.out.mono HB.out.size))
        clear HB
        have HB := HBn
        clear HBn
        have HRSn := Lib.hid (HRS.out.below hcut.out)
        clear HRS
        have HRS := HRSn
        clear HRSn HX hcut
        obtain ⟨wq23, hwq⟩ : ∃ x, x = wc := ⟨_, rfl⟩
        subst hwq
        have HX := Lib.hid (Below.refl wq23.heap.size wq23)
        go_wp2_with fail
        go_cut [18, 19] (fun s1 s2 wx => ∃ N4 A4 c4 L4 B4, s1 = .pointer (some ⟨N4, 0, none⟩) ∧ s2 = .int .i64 0 ∧ Hid (Blk 46 wx N4 (pdC (withT (rdP q F9) A4 p.m c4))) ∧ Hid (TwO wx B4 (.slice A4 p.m c4) p.m L4) ∧ Hid (IsItZ (tlZ q F9) L4 p.m) ∧ Hid (Below wq23.heap.size wq23 wx))
        case first => as_aux_lemma =>
          refine wp_region_held_drew (S := fun w' => Below wq23.heap.size wq23 w') (by kernel_rfl) HX.out.drew (fun hS => ?_)
          generalize hW23001 : wq23.drew = W23001 at hS  ⊢
          clear hW23001
          clear HX
          have HX := Lib.hid hS
          refine takeY (i := 0) (some 110) (v := .slice (some ⟨g8, 0, none⟩) N9 cu) rfl rfl (by kernel_rfl) (by kernel_rfl) (by kernel_rfl) (fun _ _ _ h => h) (by rfl) (fun w' hS => by go_simp) hS ?_
          simp only [Act.put, List.setIfInBounds_toArray, List.set_cons_zero, List.set_cons_succ]
          refine takeL (i := 3) (some 113) 45 (.tmp 5) N2 0 (kC ⟨(id : Int), A, sn, sc, k⟩) _ rfl rfl (by kernel_rfl) (by kernel_rfl) (by kernel_rfl) (fun _ _ _ h => h) (by rfl) rfl rfl (fun w' hS => (KK.out.below hS KK.out.lt).all) Tryd.underlying45 rfl info_key hS ?_
          simp only [Act.put, List.setIfInBounds_toArray, List.set_cons_zero, List.set_cons_succ]
          refine takeY (i := 1) (some 111) (v := .slice AS ms cS) rfl rfl (by kernel_rfl) (by kernel_rfl) (by kernel_rfl) (fun _ _ _ h => h) (by rfl) (fun w' hS => by go_simp) hS ?_
          simp only [Act.put, List.setIfInBounds_toArray, List.set_cons_zero, List.set_cons_succ]
          obtain ⟨M23002, hM23002⟩ : ∃ N, W23001.heap.size = N := ⟨_, rfl⟩
          have HM23002 := Lib.hid hM23002
          have le_M23002 : wq23.heap.size ≤ M23002 := by rw [← hM23002]; exact HX.out.size
          clear hM23002
          refine wpAnyH_ready (show Region.ready _ _ _ = [2, 4, 10] from by kernel_rfl) (by simp) (consCE (i := 2) (some 112) 17 #[.slice AS ms cS] (R := fun v w' => ∃ K7, OwnK w' W23001.heap.size v ms K7 ∧ (∀ j, j < ms → Alike (KS j) (K7 j)) ∧ Below W23001.heap.size W23001 w') rfl rfl (by rfl) (by go_simp) ((twinK_any AS ms cS KS W23001 (HRS.out.below HX.out) (by omega)).mono fun e w' h => h.elim fun v h => h.elim fun K7 h => ⟨v, h.1, K7, h.2⟩) (fun v w' h => by obtain ⟨K7, h1, h2, hbt⟩ := h; exact hS.trans (hbt.mono hS.size)) ?_ (consBsn (i := 4) (some 114) 1 45 (kC ⟨(id : Int), A, sn, sc, k⟩) rfl rfl (by rfl) (bs_key _ _ _ rfl ⟨(id : Int), A, sn, sc, k⟩ rfl) M23002 HM23002.out ?_ (consMk (i := 10) (some 18) 46 (pdC pd0) rfl rfl (by rfl) rfl zero_pdP M23002 HM23002.out ?_ AllReadyH.nil)))
          · skip
            intro v W23003 h hS2
            obtain ⟨K7, h1, h2, hbt⟩ := h
            obtain ⟨A7, c7, rfl, _, _, h7, h8⟩ := h1.shape
            clear hS2
            simp only [Act.put, List.setIfInBounds_toArray, List.set_cons_zero, List.set_cons_succ]
            have HT : Hid (OwKO W23003 wq23.heap.size (.slice A7 ms c7) ms K7) := Lib.hid (OwnK.le h1 HX.out.size)
            have HAL := Lib.hid h2
            have HT7 := Lib.hid h7
            clear h1 h2 h7 h8
            have HXn := Lib.hid (HX.out.trans (hbt.mono HX.out.size))
            clear HX
            have HX := HXn
            clear HXn
            clear hbt hS
            have hS := HX.out
            obtain ⟨M23004, hM23004⟩ : ∃ N, W23003.heap.size = N := ⟨_, rfl⟩
            have HM23004 := Lib.hid hM23004
            have le_M23004 : wq23.heap.size ≤ M23004 := by rw [← hM23004]; exact HX.out.size
            clear hM23004
            refine wpAnyH_ready (show Region.ready _ _ _ = [4, 10] from by kernel_rfl) (by simp) (consBsn (i := 4) (some 114) 1 45 (kC ⟨(id : Int), A, sn, sc, k⟩) rfl rfl (by rfl) (bs_key _ _ _ rfl ⟨(id : Int), A, sn, sc, k⟩ rfl) M23004 HM23004.out ?_ (consMk (i := 10) (some 18) 46 (pdC pd0) rfl rfl (by rfl) rfl zero_pdP M23004 HM23004.out ?_ AllReadyH.nil))
            · skip
              intro W23005 k1 b1 s1
              refine ⟨hS.trans (b1.mono hS.size), ?_⟩
              simp only [Act.put, List.setIfInBounds_toArray, List.set_cons_zero, List.set_cons_succ]
              have KQ : Hid (BlO 45 W23005 M23004 (kC ⟨(id : Int), A, sn, sc, k⟩)) := Lib.hid k1
              clear k1
              have HTn := Lib.hid (HT.out.below b1)
              clear HT
              have HT := HTn
              clear HTn
              have HXn := Lib.hid (HX.out.trans (b1.mono HX.out.size))
              clear HX
              have HX := HXn
              clear HXn
              clear b1 hS
              have hS := HX.out
              obtain ⟨M23006, hM23006⟩ : ∃ N, W23005.heap.size = N := ⟨_, rfl⟩
              have HM23006 := Lib.hid hM23006
              have le_M23006 : wq23.heap.size ≤ M23006 := by rw [← hM23006]; exact HX.out.size
              clear hM23006
              refine wpAnyH_ready (show Region.ready _ _ _ = [5, 10] from by kernel_rfl) (by simp) (consKq (i := 5) (some 115) (.tmp 112) (.tmp 114) rfl rfl (by rfl) rfl rfl HT.out.1 rfl (fun e => by cases e) (rdK_one KQ.out ((HKEY.out.below HB.out).below HX.out)).1 (by omega) HX.out.size ?_ (consMk (i := 10) (some 18) 46 (pdC pd0) rfl rfl (by rfl) rfl zero_pdP M23006 HM23006.out ?_ AllReadyH.nil))
              · skip
                intro v9 W23007 hr9 hg9 hb9 hv9
                have hX9 := HX.out.trans hb9
                refine ⟨hX9, ?_⟩
                simp only [Act.put, List.setIfInBounds_toArray, List.set_cons_zero, List.set_cons_succ]
                obtain ⟨A9, c9, rfl, hrk, hke, hfk, hfz⟩ := mixA HSG.out HAL.out hr9 (fun j hj => hv9 _ (HT.out.2 j hj)) ((HKEY.out.below HB.out).below hX9) rfl HSN.out
                have HK9 := Lib.hid hrk
                have HKK := Lib.hid (And.intro hke (And.intro hfk hfz))
                have HX9 := Lib.hid hX9
                clear HX hS hX9 hr9 hg9 hb9 hv9 hrk hke hfk hfz HT KQ HAL HT7
                have HX := HX9
                clear HX9
                have hS := HX.out
                obtain ⟨M23008, hM23008⟩ : ∃ N, W23007.heap.size = N := ⟨_, rfl⟩
                have HM23008 := Lib.hid hM23008
                have le_M23008 : wq23.heap.size ≤ M23008 := by rw [← hM23008]; exact HX.out.size
                clear hM23008
                refine wpAnyH_ready (show Region.ready _ _ _ = [6, 10] from by kernel_rfl) (by simp) (consCE (i := 6) (some 116) 22 #[.slice (some ⟨g8, 0, none⟩) N9 cu, .slice A9 (ms + 1) c9] (R := fun v w' => ∃ A4 c4 L4, v = .tuple #[.agg (pdC (withT (rdP q F9) A4 p.m c4)), .int .i64 0] ∧ OwnT w' W23007.heap.size (.slice A4 p.m c4) p.m L4 ∧ IsItZ (tlZ q F9) L4 p.m ∧ Below W23007.heap.size W23007 w') rfl rfl (by rfl) (by go_simp) ((bk_open HSL.out HID.out HNS.out HBK.out (some ⟨g8, 0, none⟩) cu W23007 (Own8.rd (HY8.out.below HX.out)) (fun e => by cases e) HCU.out.1 HCU.out.2 (RT.out.below HX.out RT.out.lt) A9 (ms + 1) c9 (catT K7 ms fun _ => ⟨(id : Int), A, sn, sc, k⟩) HK9.out HKK.out.1 _ HKK.out.2.1 (by rw [HKK.out.2.2]) (by rw [HKK.out.2.2])).mono fun e w' h => by obtain ⟨A4, c4, L4, rfl, h1, h2, _, _, _, h3⟩ := h; exact ⟨_, rfl, A4, c4, L4, rfl, h1, h2, h3⟩) (fun v w' h => by obtain ⟨A4, c4, L4, _, _, _, hbt⟩ := h; exact hS.trans (hbt.mono hS.size)) ?_ (consMk (i := 10) (some 18) 46 (pdC pd0) rfl rfl (by rfl) rfl zero_pdP M23008 HM23008.out ?_ AllReadyH.nil))
                · skip
                  intro v W23009 h hS2
                  obtain ⟨A4, c4, L4, rfl, h1, h2, hbt⟩ := h
                  clear hS2
                  simp only [Act.put, List.setIfInBounds_toArray, List.set_cons_zero, List.set_cons_succ]
                  have HO4 : Hid (TwO W23009 W23007.heap.size (.slice A4 p.m c4) p.m L4) := Lib.hid h1
                  have HI4 := Lib.hid h2
                  clear h1 h2 HK9 HKK
                  have HXn := Lib.hid (HX.out.trans (hbt.mono HX.out.size))
                  clear HX
                  have HX := HXn
                  clear HXn
                  clear hbt hS
                  have hS := HX.out
                  refine takeY (i := 7) (some 109) (v := .tuple #[.agg (pdC (withT (rdP q F9) A4 p.m c4)), .int .i64 0]) rfl rfl (by kernel_rfl) (by kernel_rfl) (by kernel_rfl) (fun _ _ _ h => h) (by rfl) (fun w' hS => by go_simp) hS ?_
                  simp only [Act.put, List.setIfInBounds_toArray, List.set_cons_zero, List.set_cons_succ]
                  refine takeY (i := 8) (some 117) (v := .agg (pdC (withT (rdP q F9) A4 p.m c4))) rfl rfl (by kernel_rfl) (by kernel_rfl) (by kernel_rfl) (fun _ _ _ h => h) (by rfl) (fun w' hS => by go_simp) hS ?_
                  simp only [Act.put, List.setIfInBounds_toArray, List.set_cons_zero, List.set_cons_succ]
                  refine takeY (i := 9) (some 118) (v := .int .i64 0) rfl rfl (by kernel_rfl) (by kernel_rfl) (by kernel_rfl) (fun _ _ _ h => h) (by rfl) (fun w' hS => by go_simp) hS ?_
                  simp only [Act.put, List.setIfInBounds_toArray, List.set_cons_zero, List.set_cons_succ]
                  obtain ⟨M23010, hM23010⟩ : ∃ N, W23009.heap.size = N := ⟨_, rfl⟩
                  have HM23010 := Lib.hid hM23010
                  have le_M23010 : wq23.heap.size ≤ M23010 := by rw [← hM23010]; exact HX.out.size
                  clear hM23010
                  refine takeMk (i := 10) (some 18) 46 (pdC pd0) rfl rfl (by kernel_rfl) (by rfl) rfl zero_pdP M23010 HM23010.out ?_
                  intro W23011 k1 b1 s1
                  refine ⟨hS.trans (b1.mono hS.size), ?_⟩
                  simp only [Act.put, List.setIfInBounds_toArray, List.set_cons_zero, List.set_cons_succ]
                  have K4 : Hid (BlO 46 W23011 M23010 (pdC pd0)) := Lib.hid k1
                  clear k1
                  have HO4n := Lib.hid (HO4.out.below b1)
                  clear HO4
                  have HO4 := HO4n
                  clear HO4n
                  have HXn := Lib.hid (HX.out.trans (b1.mono HX.out.size))
                  clear HX
                  have HX := HXn
                  clear HXn
                  clear b1 hS
                  have hS := HX.out
                  refine takeSt (i := 11) 46 (.tmp 18) (.tmp 117) M23010 0 (.agg (pdC (withT (rdP q F9) A4 p.m c4))) (pdC (withT (rdP q F9) A4 p.m c4)) (pdC (withT (rdP q F9) A4 p.m c4)) rfl rfl (by kernel_rfl) (by rfl) rfl rfl rfl rfl info_pdP (pdC_one _) K4.out (Nat.le_of_ble_eq_true rfl) (pd_over _ _) ?_
                  intro W23012 q1
                  have hX9 := Lib.hid (HX.out.trans (q1.2.1 _ le_M23010))
                  refine ⟨hX9.out, ?_⟩
                  simp only [Act.put, List.setIfInBounds_toArray, List.set_cons_zero, List.set_cons_succ]
                  have K4x : Hid (Blk 46 W23012 M23010 (pdC (withT (rdP q F9) A4 p.m c4))) := Lib.hid q1.1
                  have HO4x := Lib.hid (OwnT.farT HO4.out K4.out q1)
                  clear q1 hS
                  have hS := hX9.out
                  refine takeY (i := 12) (some 19) (v := .int .i64 0) rfl rfl (by kernel_rfl) (by kernel_rfl) (by kernel_rfl) (fun _ _ _ h => h) (by rfl) (fun w' hS => by go_simp) hS ?_
                  simp only [Act.put, List.setIfInBounds_toArray, List.set_cons_zero, List.set_cons_succ]
                  clear hS
                  refine wpAnyH_done (by kernel_rfl) ?_ _
                  go_wp2_with fail
                  go_meet
                  case rel => exact ⟨M23010, A4, c4, L4, _, rfl, rfl, K4x, HO4x, HI4, hX9⟩
                · skip
                  intro W23009 k1 b1 s1
                  refine ⟨hS.trans (b1.mono hS.size), ?_⟩
                  simp only [Act.put, List.setIfInBounds_toArray, List.set_cons_zero, List.set_cons_succ]
                  have K4 : Hid (BlO 46 W23009 M23008 (pdC pd0)) := Lib.hid k1
                  clear k1
                  have HK9n := Lib.hid (HK9.out.below b1)
                  clear HK9
                  have HK9 := HK9n
                  clear HK9n
                  have HXn := Lib.hid (HX.out.trans (b1.mono HX.out.size))
                  clear HX
                  have HX := HXn
                  clear HXn
                  clear b1 hS
                  have hS := HX.out
                  refine takeCE (i := 6) (some 116) 22 #[.slice (some ⟨g8, 0, none⟩) N9 cu, .slice A9 (ms + 1) c9] (R := fun v w' => ∃ A4 c4 L4, v = .tuple #[.agg (pdC (withT (rdP q F9) A4 p.m c4)), .int .i64 0] ∧ OwnT w' W23009.heap.size (.slice A4 p.m c4) p.m L4 ∧ IsItZ (tlZ q F9) L4 p.m ∧ Below W23009.heap.size W23009 w') rfl rfl (by kernel_rfl) (by rfl) (by go_simp) ((bk_open HSL.out HID.out HNS.out HBK.out (some ⟨g8, 0, none⟩) cu W23009 (Own8.rd (HY8.out.below HX.out)) (fun e => by cases e) HCU.out.1 HCU.out.2 (RT.out.below HX.out RT.out.lt) A9 (ms + 1) c9 (catT K7 ms fun _ => ⟨(id : Int), A, sn, sc, k⟩) HK9.out HKK.out.1 _ HKK.out.2.1 (by rw [HKK.out.2.2]) (by rw [HKK.out.2.2])).mono fun e w' h => by obtain ⟨A4, c4, L4, rfl, h1, h2, _, _, _, h3⟩ := h; exact ⟨_, rfl, A4, c4, L4, rfl, h1, h2, h3⟩) (fun v w' h => by obtain ⟨A4, c4, L4, _, _, _, hbt⟩ := h; exact hS.trans (hbt.mono hS.size)) ?_
                  intro v W23010 h hS2
                  obtain ⟨A4, c4, L4, rfl, h1, h2, hbt⟩ := h
                  clear hS2
                  simp only [Act.put, List.setIfInBounds_toArray, List.set_cons_zero, List.set_cons_succ]
                  have HO4 : Hid (TwO W23010 W23009.heap.size (.slice A4 p.m c4) p.m L4) := Lib.hid h1
                  have HI4 := Lib.hid h2
                  clear h1 h2 HK9 HKK
                  have K4n := Lib.hid (K4.out.below hbt)
                  clear K4
                  have K4 := K4n
                  clear K4n
                  have HXn := Lib.hid (HX.out.trans (hbt.mono HX.out.size))
                  clear HX
                  have HX := HXn
                  clear HXn
                  clear hbt hS
                  have hS := HX.out
                  refine takeY (i := 7) (some 109) (v := .tuple #[.agg (pdC (withT (rdP q F9) A4 p.m c4)), .int .i64 0]) rfl rfl (by kernel_rfl) (by kernel_rfl) (by kernel_rfl) (fun _ _ _ h => h) (by rfl) (fun w' hS => by go_simp) hS ?_
                  simp only [Act.put, List.setIfInBounds_toArray, List.set_cons_zero, List.set_cons_succ]
                  refine takeY (i := 8) (some 117) (v := .agg (pdC (withT (rdP q F9) A4 p.m c4))) rfl rfl (by kernel_rfl) (by kernel_rfl) (by kernel_rfl) (fun _ _ _ h => h) (by rfl) (fun w' hS => by go_simp) hS ?_
                  simp only [Act.put, List.setIfInBounds_toArray, List.set_cons_zero, List.set_cons_succ]
                  refine takeY (i := 9) (some 118) (v := .int .i64 0) rfl rfl (by kernel_rfl) (by kernel_rfl) (by kernel_rfl) (fun _ _ _ h => h) (by rfl) (fun w' hS => by go_simp) hS ?_
                  simp only [Act.put, List.setIfInBounds_toArray, List.set_cons_zero, List.set_cons_succ]
                  refine takeSt (i := 11) 46 (.tmp 18) (.tmp 117) M23008 0 (.agg (pdC (withT (rdP q F9) A4 p.m c4))) (pdC (withT (rdP q F9) A4 p.m c4)) (pdC (withT (rdP q F9) A4 p.m c4)) rfl rfl (by kernel_rfl) (by rfl) rfl rfl rfl rfl info_pdP (pdC_one _) K4.out (Nat.le_of_ble_eq_true rfl) (pd_over _ _) ?_
                  intro W23011 q1
                  have hX9 := Lib.hid (HX.out.trans (q1.2.1 _ le_M23008))
                  refine ⟨hX9.out, ?_⟩
                  simp only [Act.put, List.setIfInBounds_toArray, List.set_cons_zero, List.set_cons_succ]
                  have K4x : Hid (Blk 46 W23011 M23008 (pdC (withT (rdP q F9) A4 p.m c4))) := Lib.hid q1.1
                  have HO4x := Lib.hid (OwnT.farT HO4.out K4.out q1)
                  clear q1 hS
                  have hS := hX9.out
                  refine takeY (i := 12) (some 19) (v := .int .i64 0) rfl rfl (by kernel_rfl) (by kernel_rfl) (by kernel_rfl) (fun _ _ _ h => h) (by rfl) (fun w' hS => by go_simp) hS ?_
                  simp only [Act.put, List.setIfInBounds_toArray, List.set_cons_zero, List.set_cons_succ]
                  clear hS
                  refine wpAnyH_done (by kernel_rfl) ?_ _
                  go_wp2_with fail
                  go_meet
                  case rel => exact ⟨M23008, A4, c4, L4, _, rfl, rfl, K4x, HO4x, HI4, hX9⟩
              · skip
                intro W23007 k1 b1 s1
                refine ⟨hS.trans (b1.mono hS.size), ?_⟩
                simp only [Act.put, List.setIfInBounds_toArray, List.set_cons_zero, List.set_cons_succ]
                have K4 : Hid (BlO 46 W23007 M23006 (pdC pd0)) := Lib.hid k1
                clear k1
                have HTn := Lib.hid (HT.out.below b1)
                clear HT
                have HT := HTn
                clear HTn
                have KQn := Lib.hid (KQ.out.below b1)
                clear KQ
                have KQ := KQn
                clear KQn
                have HXn := Lib.hid (HX.out.trans (b1.mono HX.out.size))
                clear HX
                have HX := HXn
                clear HXn
                clear b1 hS
                have hS := HX.out
                refine takeKq (i := 5) (some 115) (.tmp 112) (.tmp 114) rfl rfl (by kernel_rfl) (by rfl) rfl rfl HT.out.1 rfl (fun e => by cases e) (rdK_one KQ.out ((HKEY.out.below HB.out).below HX.out)).1 (by omega) HX.out.size ?_
                intro v9 W23008 hr9 hg9 hb9 hv9
                have hX9 := HX.out.trans hb9
                refine ⟨hX9, ?_⟩
                simp only [Act.put, List.setIfInBounds_toArray, List.set_cons_zero, List.set_cons_succ]
                obtain ⟨A9, c9, rfl, hrk, hke, hfk, hfz⟩ := mixA HSG.out HAL.out hr9 (fun j hj => hv9 _ (HT.out.2 j hj)) ((HKEY.out.below HB.out).below hX9) rfl HSN.out
                have HK9 := Lib.hid hrk
                have HKK := Lib.hid (And.intro hke (And.intro hfk hfz))
                have K4n : Hid (BlO 46 W23008 M23006 (pdC pd0)) := Lib.hid (blk_grownK K4.out HT.out.1 hg9)
                clear K4
                have K4 := K4n
                clear K4n
                have HX9 := Lib.hid hX9
                clear HX hS hX9 hr9 hg9 hb9 hv9 hrk hke hfk hfz HT KQ HAL HT7
                have HX := HX9
                clear HX9
                have hS := HX.out
                refine takeCE (i := 6) (some 116) 22 #[.slice (some ⟨g8, 0, none⟩) N9 cu, .slice A9 (ms + 1) c9] (R := fun v w' => ∃ A4 c4 L4, v = .tuple #[.agg (pdC (withT (rdP q F9) A4 p.m c4)), .int .i64 0] ∧ OwnT w' W23008.heap.size (.slice A4 p.m c4) p.m L4 ∧ IsItZ (tlZ q F9) L4 p.m ∧ Below W23008.heap.size W23008 w') rfl rfl (by kernel_rfl) (by rfl) (by go_simp) ((bk_open HSL.out HID.out HNS.out HBK.out (some ⟨g8, 0, none⟩) cu W23008 (Own8.rd (HY8.out.below HX.out)) (fun e => by cases e) HCU.out.1 HCU.out.2 (RT.out.below HX.out RT.out.lt) A9 (ms + 1) c9 (catT K7 ms fun _ => ⟨(id : Int), A, sn, sc, k⟩) HK9.out HKK.out.1 _ HKK.out.2.1 (by rw [HKK.out.2.2]) (by rw [HKK.out.2.2])).mono fun e w' h => by obtain ⟨A4, c4, L4, rfl, h1, h2, _, _, _, h3⟩ := h; exact ⟨_, rfl, A4, c4, L4, rfl, h1, h2, h3⟩) (fun v w' h => by obtain ⟨A4, c4, L4, _, _, _, hbt⟩ := h; exact hS.trans (hbt.mono hS.size)) ?_
                intro v W23009 h hS2
                obtain ⟨A4, c4, L4, rfl, h1, h2, hbt⟩ := h
                clear hS2
                simp only [Act.put, List.setIfInBounds_toArray, List.set_cons_zero, List.set_cons_succ]
                have HO4 : Hid (TwO W23009 W23008.heap.size (.slice A4 p.m c4) p.m L4) := Lib.hid h1
                have HI4 := Lib.hid h2
                clear h1 h2 HK9 HKK
                have K4n := Lib.hid (K4.out.below hbt)
                clear K4
                have K4 := K4n
                clear K4n
                have HXn := Lib.hid (HX.out.trans (hbt.mono HX.out.size))
                clear HX
                have HX := HXn
                clear HXn
                clear hbt hS
                have hS := HX.out
                refine takeY (i := 7) (some 109) (v := .tuple #[.agg (pdC (withT (rdP q F9) A4 p.m c4)), .int .i64 0]) rfl rfl (by kernel_rfl) (by kernel_rfl) (by kernel_rfl) (fun _ _ _ h => h) (by rfl) (fun w' hS => by go_simp) hS ?_
                simp only [Act.put, List.setIfInBounds_toArray, List.set_cons_zero, List.set_cons_succ]
                refine takeY (i := 8) (some 117) (v := .agg (pdC (withT (rdP q F9) A4 p.m c4))) rfl rfl (by kernel_rfl) (by kernel_rfl) (by kernel_rfl) (fun _ _ _ h => h) (by rfl) (fun w' hS => by go_simp) hS ?_
                simp only [Act.put, List.setIfInBounds_toArray, List.set_cons_zero, List.set_cons_succ]
                refine takeY (i := 9) (some 118) (v := .int .i64 0) rfl rfl (by kernel_rfl) (by kernel_rfl) (by kernel_rfl) (fun _ _ _ h => h) (by rfl) (fun w' hS => by go_simp) hS ?_
                simp only [Act.put, List.setIfInBounds_toArray, List.set_cons_zero, List.set_cons_succ]
                refine takeSt (i := 11) 46 (.tmp 18) (.tmp 117) M23006 0 (.agg (pdC (withT (rdP q F9) A4 p.m c4))) (pdC (withT (rdP q F9) A4 p.m c4)) (pdC (withT (rdP q F9) A4 p.m c4)) rfl rfl (by kernel_rfl) (by rfl) rfl rfl rfl rfl info_pdP (pdC_one _) K4.out (Nat.le_of_ble_eq_true rfl) (pd_over _ _) ?_
                intro W23010 q1
                have hX9 := Lib.hid (HX.out.trans (q1.2.1 _ le_M23006))
                refine ⟨hX9.out, ?_⟩
                simp only [Act.put, List.setIfInBounds_toArray, List.set_cons_zero, List.set_cons_succ]
                have K4x : Hid (Blk 46 W23010 M23006 (pdC (withT (rdP q F9) A4 p.m c4))) := Lib.hid q1.1
                have HO4x := Lib.hid (OwnT.farT HO4.out K4.out q1)
                clear q1 hS
                have hS := hX9.out
                refine takeY (i := 12) (some 19) (v := .int .i64 0) rfl rfl (by kernel_rfl) (by kernel_rfl) (by kernel_rfl) (fun _ _ _ h => h) (by rfl) (fun w' hS => by go_simp) hS ?_
                simp only [Act.put, List.setIfInBounds_toArray, List.set_cons_zero, List.set_cons_succ]
                clear hS
                refine wpAnyH_done (by kernel_rfl) ?_ _
                go_wp2_with fail
                go_meet
                case rel => exact ⟨M23006, A4, c4, L4, _, rfl, rfl, K4x, HO4x, HI4, hX9⟩
            · skip
              intro W23005 k1 b1 s1
              refine ⟨hS.trans (b1.mono hS.size), ?_⟩
              simp only [Act.put, List.setIfInBounds_toArray, List.set_cons_zero, List.set_cons_succ]
              have K4 : Hid (BlO 46 W23005 M23004 (pdC pd0)) := Lib.hid k1
              clear k1
              have HTn := Lib.hid (HT.out.below b1)
              clear HT
              have HT := HTn
              clear HTn
              have HXn := Lib.hid (HX.out.trans (b1.mono HX.out.size))
              clear HX
              have HX := HXn
              clear HXn
              clear b1 hS
              have hS := HX.out
              obtain ⟨M23006, hM23006⟩ : ∃ N, W23005.heap.size = N := ⟨_, rfl⟩
              have HM23006 := Lib.hid hM23006
              have le_M23006 : wq23.heap.size ≤ M23006 := by rw [← hM23006]; exact HX.out.size
              clear hM23006
              refine takeBsn (i := 4) (some 114) 1 45 (kC ⟨(id : Int), A, sn, sc, k⟩) rfl rfl (by kernel_rfl) (by rfl) (bs_key _ _ _ rfl ⟨(id : Int), A, sn, sc, k⟩ rfl) M23006 HM23006.out ?_
              intro W23007 k1 b1 s1
              refine ⟨hS.trans (b1.mono hS.size), ?_⟩
              simp only [Act.put, List.setIfInBounds_toArray, List.set_cons_zero, List.set_cons_succ]
              have KQ : Hid (BlO 45 W23007 M23006 (kC ⟨(id : Int), A, sn, sc, k⟩)) := Lib.hid k1
              clear k1
              have HTn := Lib.hid (HT.out.below b1)
              clear HT
              have HT := HTn
              clear HTn
              have K4n := Lib.hid (K4.out.below b1)
              clear K4
              have K4 := K4n
              clear K4n
              have HXn := Lib.hid (HX.out.trans (b1.mono HX.out.size))
              clear HX
              have HX := HXn
              clear HXn
              clear b1 hS
              have hS := HX.out
              refine takeKq (i := 5) (some 115) (.tmp 112) (.tmp 114) rfl rfl (by kernel_rfl) (by rfl) rfl rfl HT.out.1 rfl (fun e => by cases e) (rdK_one KQ.out ((HKEY.out.below HB.out).below HX.out)).1 (by omega) HX.out.size ?_
              intro v9 W23008 hr9 hg9 hb9 hv9
              have hX9 := HX.out.trans hb9
              refine ⟨hX9, ?_⟩
              simp only [Act.put, List.setIfInBounds_toArray, List.set_cons_zero, List.set_cons_succ]
              obtain ⟨A9, c9, rfl, hrk, hke, hfk, hfz⟩ := mixA HSG.out HAL.out hr9 (fun j hj => hv9 _ (HT.out.2 j hj)) ((HKEY.out.below HB.out).below hX9) rfl HSN.out
              have HK9 := Lib.hid hrk
              have HKK := Lib.hid (And.intro hke (And.intro hfk hfz))
              have K4n : Hid (BlO 46 W23008 M23004 (pdC pd0)) := Lib.hid (blk_grownK K4.out HT.out.1 hg9)
              clear K4
              have K4 := K4n
              clear K4n
              have HX9 := Lib.hid hX9
              clear HX hS hX9 hr9 hg9 hb9 hv9 hrk hke hfk hfz HT KQ HAL HT7
              have HX := HX9
              clear HX9
              have hS := HX.out
              refine takeCE (i := 6) (some 116) 22 #[.slice (some ⟨g8, 0, none⟩) N9 cu, .slice A9 (ms + 1) c9] (R := fun v w' => ∃ A4 c4 L4, v = .tuple #[.agg (pdC (withT (rdP q F9) A4 p.m c4)), .int .i64 0] ∧ OwnT w' W23008.heap.size (.slice A4 p.m c4) p.m L4 ∧ IsItZ (tlZ q F9) L4 p.m ∧ Below W23008.heap.size W23008 w') rfl rfl (by kernel_rfl) (by rfl) (by go_simp) ((bk_open HSL.out HID.out HNS.out HBK.out (some ⟨g8, 0, none⟩) cu W23008 (Own8.rd (HY8.out.below HX.out)) (fun e => by cases e) HCU.out.1 HCU.out.2 (RT.out.below HX.out RT.out.lt) A9 (ms + 1) c9 (catT K7 ms fun _ => ⟨(id : Int), A, sn, sc, k⟩) HK9.out HKK.out.1 _ HKK.out.2.1 (by rw [HKK.out.2.2]) (by rw [HKK.out.2.2])).mono fun e w' h => by obtain ⟨A4, c4, L4, rfl, h1, h2, _, _, _, h3⟩ := h; exact ⟨_, rfl, A4, c4, L4, rfl, h1, h2, h3⟩) (fun v w' h => by obtain ⟨A4, c4, L4, _, _, _, hbt⟩ := h; exact hS.trans (hbt.mono hS.size)) ?_
              intro v W23009 h hS2
              obtain ⟨A4, c4, L4, rfl, h1, h2, hbt⟩ := h
              clear hS2
              simp only [Act.put, List.setIfInBounds_toArray, List.set_cons_zero, List.set_cons_succ]
              have HO4 : Hid (TwO W23009 W23008.heap.size (.slice A4 p.m c4) p.m L4) := Lib.hid h1
              have HI4 := Lib.hid h2
              clear h1 h2 HK9 HKK
              have K4n := Lib.hid (K4.out.below hbt)
              clear K4
              have K4 := K4n
              clear K4n
              have HXn := Lib.hid (HX.out.trans (hbt.mono HX.out.size))
              clear HX
              have HX := HXn
              clear HXn
              clear hbt hS
              have hS := HX.out
              refine takeY (i := 7) (some 109) (v := .tuple #[.agg (pdC (withT (rdP q F9) A4 p.m c4)), .int .i64 0]) rfl rfl (by kernel_rfl) (by kernel_rfl) (by kernel_rfl) (fun _ _ _ h => h) (by rfl) (fun w' hS => by go_simp) hS ?_
              simp only [Act.put, List.setIfInBounds_toArray, List.set_cons_zero, List.set_cons_succ]
              refine takeY (i := 8) (some 117) (v := .agg (pdC (withT (rdP q F9) A4 p.m c4))) rfl rfl (by kernel_rfl) (by kernel_rfl) (by kernel_rfl) (fun _ _ _ h => h) (by rfl) (fun w' hS => by go_simp) hS ?_
              simp only [Act.put, List.setIfInBounds_toArray, List.set_cons_zero, List.set_cons_succ]
              refine takeY (i := 9) (some 118) (v := .int .i64 0) rfl rfl (by kernel_rfl) (by kernel_rfl) (by kernel_rfl) (fun _ _ _ h => h) (by rfl) (fun w' hS => by go_simp) hS ?_
              simp only [Act.put, List.setIfInBounds_toArray, List.set_cons_zero, List.set_cons_succ]
              refine takeSt (i := 11) 46 (.tmp 18) (.tmp 117) M23004 0 (.agg (pdC (withT (rdP q F9) A4 p.m c4))) (pdC (withT (rdP q F9) A4 p.m c4)) (pdC (withT (rdP q F9) A4 p.m c4)) rfl rfl (by kernel_rfl) (by rfl) rfl rfl rfl rfl info_pdP (pdC_one _) K4.out (Nat.le_of_ble_eq_true rfl) (pd_over _ _) ?_
              intro W23010 q1
              have hX9 := Lib.hid (HX.out.trans (q1.2.1 _ le_M23004))
              refine ⟨hX9.out, ?_⟩
              simp only [Act.put, List.setIfInBounds_toArray, List.set_cons_zero, List.set_cons_succ]
              have K4x : Hid (Blk 46 W23010 M23004 (pdC (withT (rdP q F9) A4 p.m c4))) := Lib.hid q1.1
              have HO4x := Lib.hid (OwnT.farT HO4.out K4.out q1)
              clear q1 hS
              have hS := hX9.out
              refine takeY (i := 12) (some 19) (v := .int .i64 0) rfl rfl (by kernel_rfl) (by kernel_rfl) (by kernel_rfl) (fun _ _ _ h => h) (by rfl) (fun w' hS => by go_simp) hS ?_
              simp only [Act.put, List.setIfInBounds_toArray, List.set_cons_zero, List.set_cons_succ]
              clear hS
              refine wpAnyH_done (by kernel_rfl) ?_ _
              go_wp2_with fail
              go_meet
              case rel => exact ⟨M23004, A4, c4, L4, _, rfl, rfl, K4x, HO4x, HI4, hX9⟩
          · skip
            intro W23003 k1 b1 s1
            refine ⟨hS.trans (b1.mono hS.size), ?_⟩
            simp only [Act.put, List.setIfInBounds_toArray, List.set_cons_zero, List.set_cons_succ]
            have KQ : Hid (BlO 45 W23003 M23002 (kC ⟨(id : Int), A, sn, sc, k⟩)) := Lib.hid k1
            clear k1
            have HXn := Lib.hid (HX.out.trans (b1.mono HX.out.size))
            clear HX
            have HX := HXn
            clear HXn
            clear b1 hS
            have hS := HX.out
            obtain ⟨M23004, hM23004⟩ : ∃ N, W23003.heap.size = N := ⟨_, rfl⟩
            have HM23004 := Lib.hid hM23004
            have le_M23004 : wq23.heap.size ≤ M23004 := by rw [← hM23004]; exact HX.out.size
            clear hM23004
            refine wpAnyH_ready (show Region.ready _ _ _ = [2, 10] from by kernel_rfl) (by simp) (consCE (i := 2) (some 112) 17 #[.slice AS ms cS] (R := fun v w' => ∃ K7, OwnK w' W23003.heap.size v ms K7 ∧ (∀ j, j < ms → Alike (KS j) (K7 j)) ∧ Below W23003.heap.size W23003 w') rfl rfl (by rfl) (by go_simp) ((twinK_any AS ms cS KS W23003 (HRS.out.below HX.out) (by omega)).mono fun e w' h => h.elim fun v h => h.elim fun K7 h => ⟨v, h.1, K7, h.2⟩) (fun v w' h => by obtain ⟨K7, h1, h2, hbt⟩ := h; exact hS.trans (hbt.mono hS.size)) ?_ (consMk (i := 10) (some 18) 46 (pdC pd0) rfl rfl (by rfl) rfl zero_pdP M23004 HM23004.out ?_ AllReadyH.nil))
            · skip
              intro v W23005 h hS2
              obtain ⟨K7, h1, h2, hbt⟩ := h
              obtain ⟨A7, c7, rfl, _, _, h7, h8⟩ := h1.shape
              clear hS2
              simp only [Act.put, List.setIfInBounds_toArray, List.set_cons_zero, List.set_cons_succ]
              have HT : Hid (OwKO W23005 wq23.heap.size (.slice A7 ms c7) ms K7) := Lib.hid (OwnK.le h1 HX.out.size)
              have HAL := Lib.hid h2
              have HT7 := Lib.hid h7
              clear h1 h2 h7 h8
              have KQn := Lib.hid (KQ.out.below hbt)
              clear KQ
              have KQ := KQn
              clear KQn
              have HXn := Lib.hid (HX.out.trans (hbt.mono HX.out.size))
              clear HX
              have HX := HXn
              clear HXn
              clear hbt hS
              have hS := HX.out
              obtain ⟨M23006, hM23006⟩ : ∃ N, W23005.heap.size = N := ⟨_, rfl⟩
              have HM23006 := Lib.hid hM23006
              have le_M23006 : wq23.heap.size ≤ M23006 := by rw [← hM23006]; exact HX.out.size
              clear hM23006
              refine wpAnyH_ready (show Region.ready _ _ _ = [5, 10] from by kernel_rfl) (by simp) (consKq (i := 5) (some 115) (.tmp 112) (.tmp 114) rfl rfl (by rfl) rfl rfl HT.out.1 rfl (fun e => by cases e) (rdK_one KQ.out ((HKEY.out.below HB.out).below HX.out)).1 (by omega) HX.out.size ?_ (consMk (i := 10) (some 18) 46 (pdC pd0) rfl rfl (by rfl) rfl zero_pdP M23006 HM23006.out ?_ AllReadyH.nil))
              · skip
                intro v9 W23007 hr9 hg9 hb9 hv9
                have hX9 := HX.out.trans hb9
                refine ⟨hX9, ?_⟩
                simp only [Act.put, List.setIfInBounds_toArray, List.set_cons_zero, List.set_cons_succ]
                obtain ⟨A9, c9, rfl, hrk, hke, hfk, hfz⟩ := mixA HSG.out HAL.out hr9 (fun j hj => hv9 _ (HT.out.2 j hj)) ((HKEY.out.below HB.out).below hX9) rfl HSN.out
                have HK9 := Lib.hid hrk
                have HKK := Lib.hid (And.intro hke (And.intro hfk hfz))
                have HX9 := Lib.hid hX9
                clear HX hS hX9 hr9 hg9 hb9 hv9 hrk hke hfk hfz HT KQ HAL HT7
                have HX := HX9
                clear HX9
                have hS := HX.out
                obtain ⟨M23008, hM23008⟩ : ∃ N, W23007.heap.size = N := ⟨_, rfl⟩
                have HM23008 := Lib.hid hM23008
                have le_M23008 : wq23.heap.size ≤ M23008 := by rw [← hM23008]; exact HX.out.size
                clear hM23008
                refine wpAnyH_ready (show Region.ready _ _ _ = [6, 10] from by kernel_rfl) (by simp) (consCE (i := 6) (some 116) 22 #[.slice (some ⟨g8, 0, none⟩) N9 cu, .slice A9 (ms + 1) c9] (R := fun v w' => ∃ A4 c4 L4, v = .tuple #[.agg (pdC (withT (rdP q F9) A4 p.m c4)), .int .i64 0] ∧ OwnT w' W23007.heap.size (.slice A4 p.m c4) p.m L4 ∧ IsItZ (tlZ q F9) L4 p.m ∧ Below W23007.heap.size W23007 w') rfl rfl (by rfl) (by go_simp) ((bk_open HSL.out HID.out HNS.out HBK.out (some ⟨g8, 0, none⟩) cu W23007 (Own8.rd (HY8.out.below HX.out)) (fun e => by cases e) HCU.out.1 HCU.out.2 (RT.out.below HX.out RT.out.lt) A9 (ms + 1) c9 (catT K7 ms fun _ => ⟨(id : Int), A, sn, sc, k⟩) HK9.out HKK.out.1 _ HKK.out.2.1 (by rw [HKK.out.2.2]) (by rw [HKK.out.2.2])).mono fun e w' h => by obtain ⟨A4, c4, L4, rfl, h1, h2, _, _, _, h3⟩ := h; exact ⟨_, rfl, A4, c4, L4, rfl, h1, h2, h3⟩) (fun v w' h => by obtain ⟨A4, c4, L4, _, _, _, hbt⟩ := h; exact hS.trans (hbt.mono hS.size)) ?_ (consMk (i := 10) (some 18) 46 (pdC pd0) rfl rfl (by rfl) rfl zero_pdP M23008 HM23008.out ?_ AllReadyH.nil))
                · skip
                  intro v W23009 h hS2
                  obtain ⟨A4, c4, L4, rfl, h1, h2, hbt⟩ := h
                  clear hS2
                  simp only [Act.put, List.setIfInBounds_toArray, List.set_cons_zero, List.set_cons_succ]
                  have HO4 : Hid (TwO W23009 W23007.heap.size (.slice A4 p.m c4) p.m L4) := Lib.hid h1
                  have HI4 := Lib.hid h2
                  clear h1 h2 HK9 HKK
                  have HXn := Lib.hid (HX.out.trans (hbt.mono HX.out.size))
                  clear HX
                  have HX := HXn
                  clear HXn
                  clear hbt hS
                  have hS := HX.out
                  refine takeY (i := 7) (some 109) (v := .tuple #[.agg (pdC (withT (rdP q F9) A4 p.m c4)), .int .i64 0]) rfl rfl (by kernel_rfl) (by kernel_rfl) (by kernel_rfl) (fun _ _ _ h => h) (by rfl) (fun w' hS => by go_simp) hS ?_
                  simp only [Act.put, List.setIfInBounds_toArray, List.set_cons_zero, List.set_cons_succ]
                  refine takeY (i := 8) (some 117) (v := .agg (pdC (withT (rdP q F9) A4 p.m c4))) rfl rfl (by kernel_rfl) (by kernel_rfl) (by kernel_rfl) (fun _ _ _ h => h) (by rfl) (fun w' hS => by go_simp) hS ?_
                  simp only [Act.put, List.setIfInBounds_toArray, List.set_cons_zero, List.set_cons_succ]
                  refine takeY (i := 9) (some 118) (v := .int .i64 0) rfl rfl (by kernel_rfl) (by kernel_rfl) (by kernel_rfl) (fun _ _ _ h => h) (by rfl) (fun w' hS => by go_simp) hS ?_
                  simp only [Act.put, List.setIfInBounds_toArray, List.set_cons_zero, List.set_cons_succ]
                  obtain ⟨M23010, hM23010⟩ : ∃ N, W23009.heap.size = N := ⟨_, rfl⟩
                  have HM23010 := Lib.hid hM23010
                  have le_M23010 : wq23.heap.size ≤ M23010 := by rw [← hM23010]; exact HX.out.size
                  clear hM23010
                  refine takeMk (i := 10) (some 18) 46 (pdC pd0) rfl rfl (by kernel_rfl) (by rfl) rfl zero_pdP M23010 HM23010.out ?_
                  intro W23011 k1 b1 s1
                  refine ⟨hS.trans (b1.mono hS.size), ?_⟩
                  simp only [Act.put, List.setIfInBounds_toArray, List.set_cons_zero, List.set_cons_succ]
                  have K4 : Hid (BlO 46 W23011 M23010 (pdC pd0)) := Lib.hid k1
                  clear k1
                  have HO4n := Lib.hid (HO4.out.below b1)
                  clear HO4
                  have HO4 := HO4n
                  clear HO4n
                  have HXn := Lib.hid (HX.out.trans (b1.mono HX.out.size))
                  clear HX
                  have HX := HXn
                  clear HXn
                  clear b1 hS
                  have hS := HX.out
                  refine takeSt (i := 11) 46 (.tmp 18) (.tmp 117) M23010 0 (.agg (pdC (withT (rdP q F9) A4 p.m c4))) (pdC (withT (rdP q F9) A4 p.m c4)) (pdC (withT (rdP q F9) A4 p.m c4)) rfl rfl (by kernel_rfl) (by rfl) rfl rfl rfl rfl info_pdP (pdC_one _) K4.out (Nat.le_of_ble_eq_true rfl) (pd_over _ _) ?_
                  intro W23012 q1
                  have hX9 := Lib.hid (HX.out.trans (q1.2.1 _ le_M23010))
                  refine ⟨hX9.out, ?_⟩
                  simp only [Act.put, List.setIfInBounds_toArray, List.set_cons_zero, List.set_cons_succ]
                  have K4x : Hid (Blk 46 W23012 M23010 (pdC (withT (rdP q F9) A4 p.m c4))) := Lib.hid q1.1
                  have HO4x := Lib.hid (OwnT.farT HO4.out K4.out q1)
                  clear q1 hS
                  have hS := hX9.out
                  refine takeY (i := 12) (some 19) (v := .int .i64 0) rfl rfl (by kernel_rfl) (by kernel_rfl) (by kernel_rfl) (fun _ _ _ h => h) (by rfl) (fun w' hS => by go_simp) hS ?_
                  simp only [Act.put, List.setIfInBounds_toArray, List.set_cons_zero, List.set_cons_succ]
                  clear hS
                  refine wpAnyH_done (by kernel_rfl) ?_ _
                  go_wp2_with fail
                  go_meet
                  case rel => exact ⟨M23010, A4, c4, L4, _, rfl, rfl, K4x, HO4x, HI4, hX9⟩
                · skip
                  intro W23009 k1 b1 s1
                  refine ⟨hS.trans (b1.mono hS.size), ?_⟩
                  simp only [Act.put, List.setIfInBounds_toArray, List.set_cons_zero, List.set_cons_succ]
                  have K4 : Hid (BlO 46 W23009 M23008 (pdC pd0)) := Lib.hid k1
                  clear k1
                  have HK9n := Lib.hid (HK9.out.below b1)
                  clear HK9
                  have HK9 := HK9n
                  clear HK9n
                  have HXn := Lib.hid (HX.out.trans (b1.mono HX.out.size))
                  clear HX
                  have HX := HXn
                  clear HXn
                  clear b1 hS
                  have hS := HX.out
                  refine takeCE (i := 6) (some 116) 22 #[.slice (some ⟨g8, 0, none⟩) N9 cu, .slice A9 (ms + 1) c9] (R := fun v w' => ∃ A4 c4 L4, v = .tuple #[.agg (pdC (withT (rdP q F9) A4 p.m c4)), .int .i64 0] ∧ OwnT w' W23009.heap.size (.slice A4 p.m c4) p.m L4 ∧ IsItZ (tlZ q F9) L4 p.m ∧ Below W23009.heap.size W23009 w') rfl rfl (by kernel_rfl) (by rfl) (by go_simp) ((bk_open HSL.out HID.out HNS.out HBK.out (some ⟨g8, 0, none⟩) cu W23009 (Own8.rd (HY8.out.below HX.out)) (fun e => by cases e) HCU.out.1 HCU.out.2 (RT.out.below HX.out RT.out.lt) A9 (ms + 1) c9 (catT K7 ms fun _ => ⟨(id : Int), A, sn, sc, k⟩) HK9.out HKK.out.1 _ HKK.out.2.1 (by rw [HKK.out.2.2]) (by rw [HKK.out.2.2])).mono fun e w' h => by obtain ⟨A4, c4, L4, rfl, h1, h2, _, _, _, h3⟩ := h; exact ⟨_, rfl, A4, c4, L4, rfl, h1, h2, h3⟩) (fun v w' h => by obtain ⟨A4, c4, L4, _, _, _, hbt⟩ := h; exact hS.trans (hbt.mono hS.size)) ?_
                  intro v W23010 h hS2
                  obtain ⟨A4, c4, L4, rfl, h1, h2, hbt⟩ := h
                  clear hS2
                  simp only [Act.put, List.setIfInBounds_toArray, List.set_cons_zero, List.set_cons_succ]
                  have HO4 : Hid (TwO W23010 W23009.heap.size (.slice A4 p.m c4) p.m L4) := Lib.hid h1
                  have HI4 := Lib.hid h2
                  clear h1 h2 HK9 HKK
                  have K4n := Lib.hid (K4.out.below hbt)
                  clear K4
                  have K4 := K4n
                  clear K4n
                  have HXn := Lib.hid (HX.out.trans (hbt.mono HX.out.size))
                  clear HX
                  have HX := HXn
                  clear HXn
                  clear hbt hS
                  have hS := HX.out
                  refine takeY (i := 7) (some 109) (v := .tuple #[.agg (pdC (withT (rdP q F9) A4 p.m c4)), .int .i64 0]) rfl rfl (by kernel_rfl) (by kernel_rfl) (by kernel_rfl) (fun _ _ _ h => h) (by rfl) (fun w' hS => by go_simp) hS ?_
                  simp only [Act.put, List.setIfInBounds_toArray, List.set_cons_zero, List.set_cons_succ]
                  refine takeY (i := 8) (some 117) (v := .agg (pdC (withT (rdP q F9) A4 p.m c4))) rfl rfl (by kernel_rfl) (by kernel_rfl) (by kernel_rfl) (fun _ _ _ h => h) (by rfl) (fun w' hS => by go_simp) hS ?_
                  simp only [Act.put, List.setIfInBounds_toArray, List.set_cons_zero, List.set_cons_succ]
                  refine takeY (i := 9) (some 118) (v := .int .i64 0) rfl rfl (by kernel_rfl) (by kernel_rfl) (by kernel_rfl) (fun _ _ _ h => h) (by rfl) (fun w' hS => by go_simp) hS ?_
                  simp only [Act.put, List.setIfInBounds_toArray, List.set_cons_zero, List.set_cons_succ]
                  refine takeSt (i := 11) 46 (.tmp 18) (.tmp 117) M23008 0 (.agg (pdC (withT (rdP q F9) A4 p.m c4))) (pdC (withT (rdP q F9) A4 p.m c4)) (pdC (withT (rdP q F9) A4 p.m c4)) rfl rfl (by kernel_rfl) (by rfl) rfl rfl rfl rfl info_pdP (pdC_one _) K4.out (Nat.le_of_ble_eq_true rfl) (pd_over _ _) ?_
                  intro W23011 q1
                  have hX9 := Lib.hid (HX.out.trans (q1.2.1 _ le_M23008))
                  refine ⟨hX9.out, ?_⟩
                  simp only [Act.put, List.setIfInBounds_toArray, List.set_cons_zero, List.set_cons_succ]
                  have K4x : Hid (Blk 46 W23011 M23008 (pdC (withT (rdP q F9) A4 p.m c4))) := Lib.hid q1.1
                  have HO4x := Lib.hid (OwnT.farT HO4.out K4.out q1)
                  clear q1 hS
                  have hS := hX9.out
                  refine takeY (i := 12) (some 19) (v := .int .i64 0) rfl rfl (by kernel_rfl) (by kernel_rfl) (by kernel_rfl) (fun _ _ _ h => h) (by rfl) (fun w' hS => by go_simp) hS ?_
                  simp only [Act.put, List.setIfInBounds_toArray, List.set_cons_zero, List.set_cons_succ]
                  clear hS
                  refine wpAnyH_done (by kernel_rfl) ?_ _
                  go_wp2_with fail
                  go_meet
                  case rel => exact ⟨M23008, A4, c4, L4, _, rfl, rfl, K4x, HO4x, HI4, hX9⟩
              · skip
                intro W23007 k1 b1 s1
                refine ⟨hS.trans (b1.mono hS.size), ?_⟩
                simp only [Act.put, List.setIfInBounds_toArray, List.set_cons_zero, List.set_cons_succ]
                have K4 : Hid (BlO 46 W23007 M23006 (pdC pd0)) := Lib.hid k1
                clear k1
                have KQn := Lib.hid (KQ.out.below b1)
                clear KQ
                have KQ := KQn
                clear KQn
                have HTn := Lib.hid (HT.out.below b1)
                clear HT
                have HT := HTn
                clear HTn
                have HXn := Lib.hid (HX.out.trans (b1.mono HX.out.size))
                clear HX
                have HX := HXn
                clear HXn
                clear b1 hS
                have hS := HX.out
                refine takeKq (i := 5) (some 115) (.tmp 112) (.tmp 114) rfl rfl (by kernel_rfl) (by rfl) rfl rfl HT.out.1 rfl (fun e => by cases e) (rdK_one KQ.out ((HKEY.out.below HB.out).below HX.out)).1 (by omega) HX.out.size ?_
                intro v9 W23008 hr9 hg9 hb9 hv9
                have hX9 := HX.out.trans hb9
                refine ⟨hX9, ?_⟩
                simp only [Act.put, List.setIfInBounds_toArray, List.set_cons_zero, List.set_cons_succ]
                obtain ⟨A9, c9, rfl, hrk, hke, hfk, hfz⟩ := mixA HSG.out HAL.out hr9 (fun j hj => hv9 _ (HT.out.2 j hj)) ((HKEY.out.below HB.out).below hX9) rfl HSN.out
                have HK9 := Lib.hid hrk
                have HKK := Lib.hid (And.intro hke (And.intro hfk hfz))
                have K4n : Hid (BlO 46 W23008 M23006 (pdC pd0)) := Lib.hid (blk_grownK K4.out HT.out.1 hg9)
                clear K4
                have K4 := K4n
                clear K4n
                have HX9 := Lib.hid hX9
                clear HX hS hX9 hr9 hg9 hb9 hv9 hrk hke hfk hfz HT KQ HAL HT7
                have HX := HX9
                clear HX9
                have hS := HX.out
                refine takeCE (i := 6) (some 116) 22 #[.slice (some ⟨g8, 0, none⟩) N9 cu, .slice A9 (ms + 1) c9] (R := fun v w' => ∃ A4 c4 L4, v = .tuple #[.agg (pdC (withT (rdP q F9) A4 p.m c4)), .int .i64 0] ∧ OwnT w' W23008.heap.size (.slice A4 p.m c4) p.m L4 ∧ IsItZ (tlZ q F9) L4 p.m ∧ Below W23008.heap.size W23008 w') rfl rfl (by kernel_rfl) (by rfl) (by go_simp) ((bk_open HSL.out HID.out HNS.out HBK.out (some ⟨g8, 0, none⟩) cu W23008 (Own8.rd (HY8.out.below HX.out)) (fun e => by cases e) HCU.out.1 HCU.out.2 (RT.out.below HX.out RT.out.lt) A9 (ms + 1) c9 (catT K7 ms fun _ => ⟨(id : Int), A, sn, sc, k⟩) HK9.out HKK.out.1 _ HKK.out.2.1 (by rw [HKK.out.2.2]) (by rw [HKK.out.2.2])).mono fun e w' h => by obtain ⟨A4, c4, L4, rfl, h1, h2, _, _, _, h3⟩ := h; exact ⟨_, rfl, A4, c4, L4, rfl, h1, h2, h3⟩) (fun v w' h => by obtain ⟨A4, c4, L4, _, _, _, hbt⟩ := h; exact hS.trans (hbt.mono hS.size)) ?_
                intro v W23009 h hS2
                obtain ⟨A4, c4, L4, rfl, h1, h2, hbt⟩ := h
                clear hS2
                simp only [Act.put, List.setIfInBounds_toArray, List.set_cons_zero, List.set_cons_succ]
                have HO4 : Hid (TwO W23009 W23008.heap.size (.slice A4 p.m c4) p.m L4) := Lib.hid h1
                have HI4 := Lib.hid h2
                clear h1 h2 HK9 HKK
                have K4n := Lib.hid (K4.out.below hbt)
                clear K4
                have K4 := K4n
                clear K4n
                have HXn := Lib.hid (HX.out.trans (hbt.mono HX.out.size))
                clear HX
                have HX := HXn
                clear HXn
                clear hbt hS
                have hS := HX.out
                refine takeY (i := 7) (some 109) (v := .tuple #[.agg (pdC (withT (rdP q F9) A4 p.m c4)), .int .i64 0]) rfl rfl (by kernel_rfl) (by kernel_rfl) (by kernel_rfl) (fun _ _ _ h => h) (by rfl) (fun w' hS => by go_simp) hS ?_
                simp only [Act.put, List.setIfInBounds_toArray, List.set_cons_zero, List.set_cons_succ]
                refine takeY (i := 8) (some 117) (v := .agg (pdC (withT (rdP q F9) A4 p.m c4))) rfl rfl (by kernel_rfl) (by kernel_rfl) (by kernel_rfl) (fun _ _ _ h => h) (by rfl) (fun w' hS => by go_simp) hS ?_
                simp only [Act.put, List.setIfInBounds_toArray, List.set_cons_zero, List.set_cons_succ]
                refine takeY (i := 9) (some 118) (v := .int .i64 0) rfl rfl (by kernel_rfl) (by kernel_rfl) (by kernel_rfl) (fun _ _ _ h => h) (by rfl) (fun w' hS => by go_simp) hS ?_
                simp only [Act.put, List.setIfInBounds_toArray, List.set_cons_zero, List.set_cons_succ]
                refine takeSt (i := 11) 46 (.tmp 18) (.tmp 117) M23006 0 (.agg (pdC (withT (rdP q F9) A4 p.m c4))) (pdC (withT (rdP q F9) A4 p.m c4)) (pdC (withT (rdP q F9) A4 p.m c4)) rfl rfl (by kernel_rfl) (by rfl) rfl rfl rfl rfl info_pdP (pdC_one _) K4.out (Nat.le_of_ble_eq_true rfl) (pd_over _ _) ?_
                intro W23010 q1
                have hX9 := Lib.hid (HX.out.trans (q1.2.1 _ le_M23006))
                refine ⟨hX9.out, ?_⟩
                simp only [Act.put, List.setIfInBounds_toArray, List.set_cons_zero, List.set_cons_succ]
                have K4x : Hid (Blk 46 W23010 M23006 (pdC (withT (rdP q F9) A4 p.m c4))) := Lib.hid q1.1
                have HO4x := Lib.hid (OwnT.farT HO4.out K4.out q1)
                clear q1 hS
                have hS := hX9.out
                refine takeY (i := 12) (some 19) (v := .int .i64 0) rfl rfl (by kernel_rfl) (by kernel_rfl) (by kernel_rfl) (fun _ _ _ h => h) (by rfl) (fun w' hS => by go_simp) hS ?_
                simp only [Act.put, List.setIfInBounds_toArray, List.set_cons_zero, List.set_cons_succ]
                clear hS
                refine wpAnyH_done (by kernel_rfl) ?_ _
                go_wp2_with fail
                go_meet
                case rel => exact ⟨M23006, A4, c4, L4, _, rfl, rfl, K4x, HO4x, HI4, hX9⟩
            · skip
              intro W23005 k1 b1 s1
              refine ⟨hS.trans (b1.mono hS.size), ?_⟩
              simp only [Act.put, List.setIfInBounds_toArray, List.set_cons_zero, List.set_cons_succ]
              have K4 : Hid (BlO 46 W23005 M23004 (pdC pd0)) := Lib.hid k1
              clear k1
              have KQn := Lib.hid (KQ.out.below b1)
              clear KQ
              have KQ := KQn
              clear KQn
              have HXn := Lib.hid (HX.out.trans (b1.mono HX.out.size))
              clear HX
              have HX := HXn
              clear HXn
              clear b1 hS
              have hS := HX.out
              refine takeCE (i := 2) (some 112) 17 #[.slice AS ms cS] (R := fun v w' => ∃ K7, OwnK w' W23005.heap.size v ms K7 ∧ (∀ j, j < ms → Alike (KS j) (K7 j)) ∧ Below W23005.heap.size W23005 w') rfl rfl (by kernel_rfl) (by rfl) (by go_simp) ((twinK_any AS ms cS KS W23005 (HRS.out.below HX.out) (by omega)).mono fun e w' h => h.elim fun v h => h.elim fun K7 h => ⟨v, h.1, K7, h.2⟩) (fun v w' h => by obtain ⟨K7, h1, h2, hbt⟩ := h; exact hS.trans (hbt.mono hS.size)) ?_
              intro v W23006 h hS2
              obtain ⟨K7, h1, h2, hbt⟩ := h
              obtain ⟨A7, c7, rfl, _, _, h7, h8⟩ := h1.shape
              clear hS2
              simp only [Act.put, List.setIfInBounds_toArray, List.set_cons_zero, List.set_cons_succ]
              have HT : Hid (OwKO W23006 wq23.heap.size (.slice A7 ms c7) ms K7) := Lib.hid (OwnK.le h1 HX.out.size)
              have HAL := Lib.hid h2
              have HT7 := Lib.hid h7
              clear h1 h2 h7 h8
              have KQn := Lib.hid (KQ.out.below hbt)
              clear KQ
              have KQ := KQn
              clear KQn
              have K4n := Lib.hid (K4.out.below hbt)
              clear K4
              have K4 := K4n
              clear K4n
              have HXn := Lib.hid (HX.out.trans (hbt.mono HX.out.size))
              clear HX
              have HX := HXn
              clear HXn
              clear hbt hS
              have hS := HX.out
              refine takeKq (i := 5) (some 115) (.tmp 112) (.tmp 114) rfl rfl (by kernel_rfl) (by rfl) rfl rfl HT.out.1 rfl (fun e => by cases e) (rdK_one KQ.out ((HKEY.out.below HB.out).below HX.out)).1 (by omega) HX.out.size ?_
              intro v9 W23007 hr9 hg9 hb9 hv9
              have hX9 := HX.out.trans hb9
              refine ⟨hX9, ?_⟩
              simp only [Act.put, List.setIfInBounds_toArray, List.set_cons_zero, List.set_cons_succ]
              obtain ⟨A9, c9, rfl, hrk, hke, hfk, hfz⟩ := mixA HSG.out HAL.out hr9 (fun j hj => hv9 _ (HT.out.2 j hj)) ((HKEY.out.below HB.out).below hX9) rfl HSN.out
              have HK9 := Lib.hid hrk
              have HKK := Lib.hid (And.intro hke (And.intro hfk hfz))
              have K4n : Hid (BlO 46 W23007 M23004 (pdC pd0)) := Lib.hid (blk_grownK K4.out HT.out.1 hg9)
              clear K4
              have K4 := K4n
              clear K4n
              have HX9 := Lib.hid hX9
              clear HX hS hX9 hr9 hg9 hb9 hv9 hrk hke hfk hfz HT KQ HAL HT7
              have HX := HX9
              clear HX9
              have hS := HX.out
              refine takeCE (i := 6) (some 116) 22 #[.slice (some ⟨g8, 0, none⟩) N9 cu, .slice A9 (ms + 1) c9] (R := fun v w' => ∃ A4 c4 L4, v = .tuple #[.agg (pdC (withT (rdP q F9) A4 p.m c4)), .int .i64 0] ∧ OwnT w' W23007.heap.size (.slice A4 p.m c4) p.m L4 ∧ IsItZ (tlZ q F9) L4 p.m ∧ Below W23007.heap.size W23007 w') rfl rfl (by kernel_rfl) (by rfl) (by go_simp) ((bk_open HSL.out HID.out HNS.out HBK.out (some ⟨g8, 0, none⟩) cu W23007 (Own8.rd (HY8.out.below HX.out)) (fun e => by cases e) HCU.out.1 HCU.out.2 (RT.out.below HX.out RT.out.lt) A9 (ms + 1) c9 (catT K7 ms fun _ => ⟨(id : Int), A, sn, sc, k⟩) HK9.out HKK.out.1 _ HKK.out.2.1 (by rw [HKK.out.2.2]) (by rw [HKK.out.2.2])).mono fun e w' h => by obtain ⟨A4, c4, L4, rfl, h1, h2, _, _, _, h3⟩ := h; exact ⟨_, rfl, A4, c4, L4, rfl, h1, h2, h3⟩) (fun v w' h => by obtain ⟨A4, c4, L4, _, _, _, hbt⟩ := h; exact hS.trans (hbt.mono hS.size)) ?_
              intro v W23008 h hS2
              obtain ⟨A4, c4, L4, rfl, h1, h2, hbt⟩ := h
              clear hS2
              simp only [Act.put, List.setIfInBounds_toArray, List.set_cons_zero, List.set_cons_succ]
              have HO4 : Hid (TwO W23008 W23007.heap.size (.slice A4 p.m c4) p.m L4) := Lib.hid h1
              have HI4 := Lib.hid h2
              clear h1 h2 HK9 HKK
              have K4n := Lib.hid (K4.out.below hbt)
              clear K4
              have K4 := K4n
              clear K4n
              have HXn := Lib.hid (HX.out.trans (hbt.mono HX.out.size))
              clear HX
              have HX := HXn
              clear HXn
              clear hbt hS
              have hS := HX.out
              refine takeY (i := 7) (some 109) (v := .tuple #[.agg (pdC (withT (rdP q F9) A4 p.m c4)), .int .i64 0]) rfl rfl (by kernel_rfl) (by kernel_rfl) (by kernel_rfl) (fun _ _ _ h => h) (by rfl) (fun w' hS => by go_simp) hS ?_
              simp only [Act.put, List.setIfInBounds_toArray, List.set_cons_zero, List.set_cons_succ]
              refine takeY (i := 8) (some 117) (v := .agg (pdC (withT (rdP q F9) A4 p.m c4))) rfl rfl (by kernel_rfl) (by kernel_rfl) (by kernel_rfl) (fun _ _ _ h => h) (by rfl) (fun w' hS => by go_simp) hS ?_
              simp only [Act.put, List.setIfInBounds_toArray, List.set_cons_zero, List.set_cons_succ]
              refine takeY (i := 9) (some 118) (v := .int .i64 0) rfl rfl (by kernel_rfl) (by kernel_rfl) (by kernel_rfl) (fun _ _ _ h => h) (by rfl) (fun w' hS => by go_simp) hS ?_
              simp only [Act.put, List.setIfInBounds_toArray, List.set_cons_zero, List.set_cons_succ]
              refine takeSt (i := 11) 46 (.tmp 18) (.tmp 117) M23004 0 (.agg (pdC (withT (rdP q F9) A4 p.m c4))) (pdC (withT (rdP q F9) A4 p.m c4)) (pdC (withT (rdP q F9) A4 p.m c4)) rfl rfl (by kernel_rfl) (by rfl) rfl rfl rfl rfl info_pdP (pdC_one _) K4.out (Nat.le_of_ble_eq_true rfl) (pd_over _ _) ?_
              intro W23009 q1
              have hX9 := Lib.hid (HX.out.trans (q1.2.1 _ le_M23004))
              refine ⟨hX9.out, ?_⟩
              simp only [Act.put, List.setIfInBounds_toArray, List.set_cons_zero, List.set_cons_succ]
              have K4x : Hid (Blk 46 W23009 M23004 (pdC (withT (rdP q F9) A4 p.m c4))) := Lib.hid q1.1
              have HO4x := Lib.hid (OwnT.farT HO4.out K4.out q1)
              clear q1 hS
              have hS := hX9.out
              refine takeY (i := 12) (some 19) (v := .int .i64 0) rfl rfl (by kernel_rfl) (by kernel_rfl) (by kernel_rfl) (fun _ _ _ h => h) (by rfl) (fun w' hS => by go_simp) hS ?_
              simp only [Act.put, List.setIfInBounds_toArray, List.set_cons_zero, List.set_cons_succ]
              clear hS
              refine wpAnyH_done (by kernel_rfl) ?_ _
              go_wp2_with fail
              go_meet
              case rel => exact ⟨M23004, A4, c4, L4, _, rfl, rfl, K4x, HO4x, HI4, hX9⟩
          · skip
            intro W23003 k1 b1 s1
            refine ⟨hS.trans (b1.mono hS.size), ?_⟩
            simp only [Act.put, List.setIfInBounds_toArray, List.set_cons_zero, List.set_cons_succ]
            have K4 : Hid (BlO 46 W23003 M23002 (pdC pd0)) := Lib.hid k1
            clear k1
            have HXn := Lib.hid (HX.out.trans (b1.mono HX.out.size))
            clear HX
            have HX := HXn
            clear HXn
            clear b1 hS
            have hS := HX.out
            obtain ⟨M23004, hM23004⟩ : ∃ N, W23003.heap.size = N := ⟨_, rfl⟩
            have HM23004 := Lib.hid hM23004
            have le_M23004 : wq23.heap.size ≤ M23004 := by rw [← hM23004]; exact HX.out.size
            clear hM23004
            refine wpAnyH_ready (show Region.ready _ _ _ = [2, 4] from by kernel_rfl) (by simp) (consCE (i := 2) (some 112) 17 #[.slice AS ms cS] (R := fun v w' => ∃ K7, OwnK w' W23003.heap.size v ms K7 ∧ (∀ j, j < ms → Alike (KS j) (K7 j)) ∧ Below W23003.heap.size W23003 w') rfl rfl (by rfl) (by go_simp) ((twinK_any AS ms cS KS W23003 (HRS.out.below HX.out) (by omega)).mono fun e w' h => h.elim fun v h => h.elim fun K7 h => ⟨v, h.1, K7, h.2⟩) (fun v w' h => by obtain ⟨K7, h1, h2, hbt⟩ := h; exact hS.trans (hbt.mono hS.size)) ?_ (consBsn (i := 4) (some 114) 1 45 (kC ⟨(id : Int), A, sn, sc, k⟩) rfl rfl (by rfl) (bs_key _ _ _ rfl ⟨(id : Int), A, sn, sc, k⟩ rfl) M23004 HM23004.out ?_ AllReadyH.nil))
            · skip
              intro v W23005 h hS2
              obtain ⟨K7, h1, h2, hbt⟩ := h
              obtain ⟨A7, c7, rfl, _, _, h7, h8⟩ := h1.shape
              clear hS2
              simp only [Act.put, List.setIfInBounds_toArray, List.set_cons_zero, List.set_cons_succ]
              have HT : Hid (OwKO W23005 wq23.heap.size (.slice A7 ms c7) ms K7) := Lib.hid (OwnK.le h1 HX.out.size)
              have HAL := Lib.hid h2
              have HT7 := Lib.hid h7
              clear h1 h2 h7 h8
              have K4n := Lib.hid (K4.out.below hbt)
              clear K4
              have K4 := K4n
              clear K4n
              have HXn := Lib.hid (HX.out.trans (hbt.mono HX.out.size))
              clear HX
              have HX := HXn
              clear HXn
              clear hbt hS
              have hS := HX.out
              obtain ⟨M23006, hM23006⟩ : ∃ N, W23005.heap.size = N := ⟨_, rfl⟩
              have HM23006 := Lib.hid hM23006
              have le_M23006 : wq23.heap.size ≤ M23006 := by rw [← hM23006]; exact HX.out.size
              clear hM23006
              refine takeBsn (i := 4) (some 114) 1 45 (kC ⟨(id : Int), A, sn, sc, k⟩) rfl rfl (by kernel_rfl) (by rfl) (bs_key _ _ _ rfl ⟨(id : Int), A, sn, sc, k⟩ rfl) M23006 HM23006.out ?_
              intro W23007 k1 b1 s1
              refine ⟨hS.trans (b1.mono hS.size), ?_⟩
              simp only [Act.put, List.setIfInBounds_toArray, List.set_cons_zero, List.set_cons_succ]
              have KQ : Hid (BlO 45 W23007 M23006 (kC ⟨(id : Int), A, sn, sc, k⟩)) := Lib.hid k1
              clear k1
              have K4n := Lib.hid (K4.out.below b1)
              clear K4
              have K4 := K4n
              clear K4n
              have HTn := Lib.hid (HT.out.below b1)
              clear HT
              have HT := HTn
              clear HTn
              have HXn := Lib.hid (HX.out.trans (b1.mono HX.out.size))
              clear HX
              have HX := HXn
              clear HXn
              clear b1 hS
              have hS := HX.out
              refine takeKq (i := 5) (some 115) (.tmp 112) (.tmp 114) rfl rfl (by kernel_rfl) (by rfl) rfl rfl HT.out.1 rfl (fun e => by cases e) (rdK_one KQ.out ((HKEY.out.below HB.out).below HX.out)).1 (by omega) HX.out.size ?_
              intro v9 W23008 hr9 hg9 hb9 hv9
              have hX9 := HX.out.trans hb9
              refine ⟨hX9, ?_⟩
              simp only [Act.put, List.setIfInBounds_toArray, List.set_cons_zero, List.set_cons_succ]
              obtain ⟨A9, c9, rfl, hrk, hke, hfk, hfz⟩ := mixA HSG.out HAL.out hr9 (fun j hj => hv9 _ (HT.out.2 j hj)) ((HKEY.out.below HB.out).below hX9) rfl HSN.out
              have HK9 := Lib.hid hrk
              have HKK := Lib.hid (And.intro hke (And.intro hfk hfz))
              have K4n : Hid (BlO 46 W23008 M23002 (pdC pd0)) := Lib.hid (blk_grownK K4.out HT.out.1 hg9)
              clear K4
              have K4 := K4n
              clear K4n
              have HX9 := Lib.hid hX9
              clear HX hS hX9 hr9 hg9 hb9 hv9 hrk hke hfk hfz HT KQ HAL HT7
              have HX := HX9
              clear HX9
              have hS := HX.out
              refine takeCE (i := 6) (some 116) 22 #[.slice (some ⟨g8, 0, none⟩) N9 cu, .slice A9 (ms + 1) c9] (R := fun v w' => ∃ A4 c4 L4, v = .tuple #[.agg (pdC (withT (rdP q F9) A4 p.m c4)), .int .i64 0] ∧ OwnT w' W23008.heap.size (.slice A4 p.m c4) p.m L4 ∧ IsItZ (tlZ q F9) L4 p.m ∧ Below W23008.heap.size W23008 w') rfl rfl (by kernel_rfl) (by rfl) (by go_simp) ((bk_open HSL.out HID.out HNS.out HBK.out (some ⟨g8, 0, none⟩) cu W23008 (Own8.rd (HY8.out.below HX.out)) (fun e => by cases e) HCU.out.1 HCU.out.2 (RT.out.below HX.out RT.out.lt) A9 (ms + 1) c9 (catT K7 ms fun _ => ⟨(id : Int), A, sn, sc, k⟩) HK9.out HKK.out.1 _ HKK.out.2.1 (by rw [HKK.out.2.2]) (by rw [HKK.out.2.2])).mono fun e w' h => by obtain ⟨A4, c4, L4, rfl, h1, h2, _, _, _, h3⟩ := h; exact ⟨_, rfl, A4, c4, L4, rfl, h1, h2, h3⟩) (fun v w' h => by obtain ⟨A4, c4, L4, _, _, _, hbt⟩ := h; exact hS.trans (hbt.mono hS.size)) ?_
              intro v W23009 h hS2
              obtain ⟨A4, c4, L4, rfl, h1, h2, hbt⟩ := h
              clear hS2
              simp only [Act.put, List.setIfInBounds_toArray, List.set_cons_zero, List.set_cons_succ]
              have HO4 : Hid (TwO W23009 W23008.heap.size (.slice A4 p.m c4) p.m L4) := Lib.hid h1
              have HI4 := Lib.hid h2
              clear h1 h2 HK9 HKK
              have K4n := Lib.hid (K4.out.below hbt)
              clear K4
              have K4 := K4n
              clear K4n
              have HXn := Lib.hid (HX.out.trans (hbt.mono HX.out.size))
              clear HX
              have HX := HXn
              clear HXn
              clear hbt hS
              have hS := HX.out
              refine takeY (i := 7) (some 109) (v := .tuple #[.agg (pdC (withT (rdP q F9) A4 p.m c4)), .int .i64 0]) rfl rfl (by kernel_rfl) (by kernel_rfl) (by kernel_rfl) (fun _ _ _ h => h) (by rfl) (fun w' hS => by go_simp) hS ?_
              simp only [Act.put, List.setIfInBounds_toArray, List.set_cons_zero, List.set_cons_succ]
              refine takeY (i := 8) (some 117) (v := .agg (pdC (withT (rdP q F9) A4 p.m c4))) rfl rfl (by kernel_rfl) (by kernel_rfl) (by kernel_rfl) (fun _ _ _ h => h) (by rfl) (fun w' hS => by go_simp) hS ?_
              simp only [Act.put, List.setIfInBounds_toArray, List.set_cons_zero, List.set_cons_succ]
              refine takeY (i := 9) (some 118) (v := .int .i64 0) rfl rfl (by kernel_rfl) (by kernel_rfl) (by kernel_rfl) (fun _ _ _ h => h) (by rfl) (fun w' hS => by go_simp) hS ?_
              simp only [Act.put, List.setIfInBounds_toArray, List.set_cons_zero, List.set_cons_succ]
              refine takeSt (i := 11) 46 (.tmp 18) (.tmp 117) M23002 0 (.agg (pdC (withT (rdP q F9) A4 p.m c4))) (pdC (withT (rdP q F9) A4 p.m c4)) (pdC (withT (rdP q F9) A4 p.m c4)) rfl rfl (by kernel_rfl) (by rfl) rfl rfl rfl rfl info_pdP (pdC_one _) K4.out (Nat.le_of_ble_eq_true rfl) (pd_over _ _) ?_
              intro W23010 q1
              have hX9 := Lib.hid (HX.out.trans (q1.2.1 _ le_M23002))
              refine ⟨hX9.out, ?_⟩
              simp only [Act.put, List.setIfInBounds_toArray, List.set_cons_zero, List.set_cons_succ]
              have K4x : Hid (Blk 46 W23010 M23002 (pdC (withT (rdP q F9) A4 p.m c4))) := Lib.hid q1.1
              have HO4x := Lib.hid (OwnT.farT HO4.out K4.out q1)
              clear q1 hS
              have hS := hX9.out
              refine takeY (i := 12) (some 19) (v := .int .i64 0) rfl rfl (by kernel_rfl) (by kernel_rfl) (by kernel_rfl) (fun _ _ _ h => h) (by rfl) (fun w' hS => by go_simp) hS ?_
              simp only [Act.put, List.setIfInBounds_toArray, List.set_cons_zero, List.set_cons_succ]
              clear hS
              refine wpAnyH_done (by kernel_rfl) ?_ _
              go_wp2_with fail
              go_meet
              case rel => exact ⟨M23002, A4, c4, L4, _, rfl, rfl, K4x, HO4x, HI4, hX9⟩
            · skip
              intro W23005 k1 b1 s1
              refine ⟨hS.trans (b1.mono hS.size), ?_⟩
              simp only [Act.put, List.setIfInBounds_toArray, List.set_cons_zero, List.set_cons_succ]
              have KQ : Hid (BlO 45 W23005 M23004 (kC ⟨(id : Int), A, sn, sc, k⟩)) := Lib.hid k1
              clear k1
              have K4n := Lib.hid (K4.out.below b1)
              clear K4
              have K4 := K4n
              clear K4n
              have HXn := Lib.hid (HX.out.trans (b1.mono HX.out.size))
              clear HX
              have HX := HXn
              clear HXn
              clear b1 hS
              have hS := HX.out
              refine takeCE (i := 2) (some 112) 17 #[.slice AS ms cS] (R := fun v w' => ∃ K7, OwnK w' W23005.heap.size v ms K7 ∧ (∀ j, j < ms → Alike (KS j) (K7 j)) ∧ Below W23005.heap.size W23005 w') rfl rfl (by kernel_rfl) (by rfl) (by go_simp) ((twinK_any AS ms cS KS W23005 (HRS.out.below HX.out) (by omega)).mono fun e w' h => h.elim fun v h => h.elim fun K7 h => ⟨v, h.1, K7, h.2⟩) (fun v w' h => by obtain ⟨K7, h1, h2, hbt⟩ := h; exact hS.trans (hbt.mono hS.size)) ?_
              intro v W23006 h hS2
              obtain ⟨K7, h1, h2, hbt⟩ := h
              obtain ⟨A7, c7, rfl, _, _, h7, h8⟩ := h1.shape
              clear hS2
              simp only [Act.put, List.setIfInBounds_toArray, List.set_cons_zero, List.set_cons_succ]
              have HT : Hid (OwKO W23006 wq23.heap.size (.slice A7 ms c7) ms K7) := Lib.hid (OwnK.le h1 HX.out.size)
              have HAL := Lib.hid h2
              have HT7 := Lib.hid h7
              clear h1 h2 h7 h8
              have K4n := Lib.hid (K4.out.below hbt)
              clear K4
              have K4 := K4n
              clear K4n
              have KQn := Lib.hid (KQ.out.below hbt)
              clear KQ
              have KQ := KQn
              clear KQn
              have HXn := Lib.hid (HX.out.trans (hbt.mono HX.out.size))
              clear HX
              have HX := HXn
              clear HXn
              clear hbt hS
              have hS := HX.out
              refine takeKq (i := 5) (some 115) (.tmp 112) (.tmp 114) rfl rfl (by kernel_rfl) (by rfl) rfl rfl HT.out.1 rfl (fun e => by cases e) (rdK_one KQ.out ((HKEY.out.below HB.out).below HX.out)).1 (by omega) HX.out.size ?_
              intro v9 W23007 hr9 hg9 hb9 hv9
              have hX9 := HX.out.trans hb9
              refine ⟨hX9, ?_⟩
              simp only [Act.put, List.setIfInBounds_toArray, List.set_cons_zero, List.set_cons_succ]
              obtain ⟨A9, c9, rfl, hrk, hke, hfk, hfz⟩ := mixA HSG.out HAL.out hr9 (fun j hj => hv9 _ (HT.out.2 j hj)) ((HKEY.out.below HB.out).below hX9) rfl HSN.out
              have HK9 := Lib.hid hrk
              have HKK := Lib.hid (And.intro hke (And.intro hfk hfz))
              have K4n : Hid (BlO 46 W23007 M23002 (pdC pd0)) := Lib.hid (blk_grownK K4.out HT.out.1 hg9)
              clear K4
              have K4 := K4n
              clear K4n
              have HX9 := Lib.hid hX9
              clear HX hS hX9 hr9 hg9 hb9 hv9 hrk hke hfk hfz HT KQ HAL HT7
              have HX := HX9
              clear HX9
              have hS := HX.out
              refine takeCE (i := 6) (some 116) 22 #[.slice (some ⟨g8, 0, none⟩) N9 cu, .slice A9 (ms + 1) c9] (R := fun v w' => ∃ A4 c4 L4, v = .tuple #[.agg (pdC (withT (rdP q F9) A4 p.m c4)), .int .i64 0] ∧ OwnT w' W23007.heap.size (.slice A4 p.m c4) p.m L4 ∧ IsItZ (tlZ q F9) L4 p.m ∧ Below W23007.heap.size W23007 w') rfl rfl (by kernel_rfl) (by rfl) (by go_simp) ((bk_open HSL.out HID.out HNS.out HBK.out (some ⟨g8, 0, none⟩) cu W23007 (Own8.rd (HY8.out.below HX.out)) (fun e => by cases e) HCU.out.1 HCU.out.2 (RT.out.below HX.out RT.out.lt) A9 (ms + 1) c9 (catT K7 ms fun _ => ⟨(id : Int), A, sn, sc, k⟩) HK9.out HKK.out.1 _ HKK.out.2.1 (by rw [HKK.out.2.2]) (by rw [HKK.out.2.2])).mono fun e w' h => by obtain ⟨A4, c4, L4, rfl, h1, h2, _, _, _, h3⟩ := h; exact ⟨_, rfl, A4, c4, L4, rfl, h1, h2, h3⟩) (fun v w' h => by obtain ⟨A4, c4, L4, _, _, _, hbt⟩ := h; exact hS.trans (hbt.mono hS.size)) ?_
              intro v W23008 h hS2
              obtain ⟨A4, c4, L4, rfl, h1, h2, hbt⟩ := h
              clear hS2
              simp only [Act.put, List.setIfInBounds_toArray, List.set_cons_zero, List.set_cons_succ]
              have HO4 : Hid (TwO W23008 W23007.heap.size (.slice A4 p.m c4) p.m L4) := Lib.hid h1
              have HI4 := Lib.hid h2
              clear h1 h2 HK9 HKK
              have K4n := Lib.hid (K4.out.below hbt)
              clear K4
              have K4 := K4n
              clear K4n
              have HXn := Lib.hid (HX.out.trans (hbt.mono HX.out.size))
              clear HX
              have HX := HXn
              clear HXn
              clear hbt hS
              have hS := HX.out
              refine takeY (i := 7) (some 109) (v := .tuple #[.agg (pdC (withT (rdP q F9) A4 p.m c4)), .int .i64 0]) rfl rfl (by kernel_rfl) (by kernel_rfl) (by kernel_rfl) (fun _ _ _ h => h) (by rfl) (fun w' hS => by go_simp) hS ?_
              simp only [Act.put, List.setIfInBounds_toArray, List.set_cons_zero, List.set_cons_succ]
              refine takeY (i := 8) (some 117) (v := .agg (pdC (withT (rdP q F9) A4 p.m c4))) rfl rfl (by kernel_rfl) (by kernel_rfl) (by kernel_rfl) (fun _ _ _ h => h) (by rfl) (fun w' hS => by go_simp) hS ?_
              simp only [Act.put, List.setIfInBounds_toArray, List.set_cons_zero, List.set_cons_succ]
              refine takeY (i := 9) (some 118) (v := .int .i64 0) rfl rfl (by kernel_rfl) (by kernel_rfl) (by kernel_rfl) (fun _ _ _ h => h) (by rfl) (fun w' hS => by go_simp) hS ?_
              simp only [Act.put, List.setIfInBounds_toArray, List.set_cons_zero, List.set_cons_succ]
              refine takeSt (i := 11) 46 (.tmp 18) (.tmp 117) M23002 0 (.agg (pdC (withT (rdP q F9) A4 p.m c4))) (pdC (withT (rdP q F9) A4 p.m c4)) (pdC (withT (rdP q F9) A4 p.m c4)) rfl rfl (by kernel_rfl) (by rfl) rfl rfl rfl rfl info_pdP (pdC_one _) K4.out (Nat.le_of_ble_eq_true rfl) (pd_over _ _) ?_
              intro W23009 q1
              have hX9 := Lib.hid (HX.out.trans (q1.2.1 _ le_M23002))
              refine ⟨hX9.out, ?_⟩
              simp only [Act.put, List.setIfInBounds_toArray, List.set_cons_zero, List.set_cons_succ]
              have K4x : Hid (Blk 46 W23009 M23002 (pdC (withT (rdP q F9) A4 p.m c4))) := Lib.hid q1.1
              have HO4x := Lib.hid (OwnT.farT HO4.out K4.out q1)
              clear q1 hS
              have hS := hX9.out
              refine takeY (i := 12) (some 19) (v := .int .i64 0) rfl rfl (by kernel_rfl) (by kernel_rfl) (by kernel_rfl) (fun _ _ _ h => h) (by rfl) (fun w' hS => by go_simp) hS ?_
              simp only [Act.put, List.setIfInBounds_toArray, List.set_cons_zero, List.set_cons_succ]
              clear hS
              refine wpAnyH_done (by kernel_rfl) ?_ _
              go_wp2_with fail
              go_meet
              case rel => exact ⟨M23002, A4, c4, L4, _, rfl, rfl, K4x, HO4x, HI4, hX9⟩
        case rest => as_aux_lemma =>
        obtain ⟨N23, A23, c23, L23, B23, rfl, rfl, K23, HO23, HI23, HXn⟩ := hcut
        clear HX
        have RTn := Lib.hid (RT.out.below HXn.out RT.out.lt)
        clear RT
        have RT := RTn
        clear RTn
        have KPn := Lib.hid (KP.out.below HXn.out KP.out.lt)
        clear KP
        have KP := KPn
        clear KPn
        have KKn := Lib.hid (KK.out.below HXn.out KK.out.lt)
        clear KK
        have KK := KKn
        clear KKn
        have K12n := Lib.hid (K12.out.below HXn.out K12.out.lt)
        clear K12
        have K12 := K12n
        clear K12n
        have HY8n := Lib.hid (HY8.out.below HXn.out)
        clear HY8
        have HY8 := HY8n
        clear HY8n
        have HBn := Lib.hid (HB.out.trans (HXn.out.mono HB.out.size))
        clear HB
        have HB := HBn
        clear HBn
        have HRSn := Lib.hid (HRS.out.below HXn.out)
        clear HRS
        have HRS := HRSn
        clear HRSn HXn
        obtain ⟨wq24, hwq⟩ : ∃ x, x = wc := ⟨_, rfl⟩
        subst hwq
        have HX := Lib.hid (Below.refl wq24.heap.size wq24)
        go_wp2_with fail
        go_cut [20, 21] (fun s1 s2 wx => ∃ N4 A4 c4 L4 B4, s1 = .pointer (some ⟨N4, 0, none⟩) ∧ s2 = .int .i64 0 ∧ Hid (Blk 46 wx N4 (pdC (withT (rdP q F9) A4 p.m c4))) ∧ Hid (TwO wx B4 (.slice A4 p.m c4) p.m L4) ∧ Hid (IsItZ (tlZ q F9) L4 p.m) ∧ Hid (Below wq24.heap.size wq24 wx))
        case first => as_aux_lemma =>
          refine wp_region_held_drew (S := fun w' => Below wq24.heap.size wq24 w') (by kernel_rfl) HX.out.drew (fun hS => ?_)
          generalize hW24001 : wq24.drew = W24001 at hS  ⊢
          clear hW24001
          clear HX
          have HX := Lib.hid hS
          refine takeY (i := 0) (some 120) (v := .slice (some ⟨g8, 0, none⟩) N9 cu) rfl rfl (by kernel_rfl) (by kernel_rfl) (by kernel_rfl) (fun _ _ _ h => h) (by rfl) (fun w' hS => by go_simp) hS ?_
          simp only [Act.put, List.setIfInBounds_toArray, List.set_cons_zero, List.set_cons_succ]
          refine takeL (i := 1) (some 121) 45 (.tmp 5) N2 0 (kC ⟨(id : Int), A, sn, sc, k⟩) _ rfl rfl (by kernel_rfl) (by kernel_rfl) (by kernel_rfl) (fun _ _ _ h => h) (by rfl) rfl rfl (fun w' hS => (KK.out.below hS KK.out.lt).all) Tryd.underlying45 rfl info_key hS ?_
          simp only [Act.put, List.setIfInBounds_toArray, List.set_cons_zero, List.set_cons_succ]
          refine takeY (i := 3) (some 123) (v := .slice AS ms cS) rfl rfl (by kernel_rfl) (by kernel_rfl) (by kernel_rfl) (fun _ _ _ h => h) (by rfl) (fun w' hS => by go_simp) hS ?_
          simp only [Act.put, List.setIfInBounds_toArray, List.set_cons_zero, List.set_cons_succ]
          obtain ⟨M24002, hM24002⟩ : ∃ N, W24001.heap.size = N := ⟨_, rfl⟩
          have HM24002 := Lib.hid hM24002
          have le_M24002 : wq24.heap.size ≤ M24002 := by rw [← hM24002]; exact HX.out.size
          clear hM24002
          refine wpAnyH_ready (show Region.ready _ _ _ = [2, 4, 10] from by kernel_rfl) (by simp) (consBsn (i := 2) (some 122) 1 45 (kC ⟨(id : Int), A, sn, sc, k⟩) rfl rfl (by rfl) (bs_key _ _ _ rfl ⟨(id : Int), A, sn, sc, k⟩ rfl) M24002 HM24002.out ?_ (consCE (i := 4) (some 124) 17 #[.slice AS ms cS] (R := fun v w' => ∃ K7, OwnK w' W24001.heap.size v ms K7 ∧ (∀ j, j < ms → Alike (KS j) (K7 j)) ∧ Below W24001.heap.size W24001 w') rfl rfl (by rfl) (by go_simp) ((twinK_any AS ms cS KS W24001 (HRS.out.below HX.out) (by omega)).mono fun e w' h => h.elim fun v h => h.elim fun K7 h => ⟨v, h.1, K7, h.2⟩) (fun v w' h => by obtain ⟨K7, h1, h2, hbt⟩ := h; exact hS.trans (hbt.mono hS.size)) ?_ (consMk (i := 10) (some 20) 46 (pdC pd0) rfl rfl (by rfl) rfl zero_pdP M24002 HM24002.out ?_ AllReadyH.nil)))
          · skip
            intro W24003 k1 b1 s1
            refine ⟨hS.trans (b1.mono hS.size), ?_⟩
            simp only [Act.put, List.setIfInBounds_toArray, List.set_cons_zero, List.set_cons_succ]
            have KQ : Hid (BlO 45 W24003 M24002 (kC ⟨(id : Int), A, sn, sc, k⟩)) := Lib.hid k1
            clear k1
            have HXn := Lib.hid (HX.out.trans (b1.mono HX.out.size))
            clear HX
            have HX := HXn
            clear HXn
            clear b1 hS
            have hS := HX.out
            obtain ⟨M24004, hM24004⟩ : ∃ N, W24003.heap.size = N := ⟨_, rfl⟩
            have HM24004 := Lib.hid hM24004
            have le_M24004 : wq24.heap.size ≤ M24004 := by rw [← hM24004]; exact HX.out.size
            clear hM24004
            refine wpAnyH_ready (show Region.ready _ _ _ = [4, 10] from by kernel_rfl) (by simp) (consCE (i := 4) (some 124) 17 #[.slice AS ms cS] (R := fun v w' => ∃ K7, OwnK w' W24003.heap.size v ms K7 ∧ (∀ j, j < ms → Alike (KS j) (K7 j)) ∧ Below W24003.heap.size W24003 w') rfl rfl (by rfl) (by go_simp) ((twinK_any AS ms cS KS W24003 (HRS.out.below HX.out) (by omega)).mono fun e w' h => h.elim fun v h => h.elim fun K7 h => ⟨v, h.1, K7, h.2⟩) (fun v w' h => by obtain ⟨K7, h1, h2, hbt⟩ := h; exact hS.trans (hbt.mono hS.size)) ?_ (consMk (i := 10) (some 20) 46 (pdC pd0) rfl rfl (by rfl) rfl zero_pdP M24004 HM24004.out ?_ AllReadyH.nil))
            · skip
              intro v W24005 h hS2
              obtain ⟨K7, h1, h2, hbt⟩ := h
              obtain ⟨A7, c7, rfl, _, _, h7, h8⟩ := h1.shape
              clear hS2
              simp only [Act.put, List.setIfInBounds_toArray, List.set_cons_zero, List.set_cons_succ]
              have HT : Hid (OwKO W24005 wq24.heap.size (.slice A7 ms c7) ms K7) := Lib.hid (OwnK.le h1 HX.out.size)
              have HAL := Lib.hid h2
              have HT7 := Lib.hid h7
              clear h1 h2 h7 h8
              have KQn := Lib.hid (KQ.out.below hbt)
              clear KQ
              have KQ := KQn
              clear KQn
              have HXn := Lib.hid (HX.out.trans (hbt.mono HX.out.size))
              clear HX
              have HX := HXn
              clear HXn
              clear hbt hS
              have hS := HX.out
              obtain ⟨M24006, hM24006⟩ : ∃ N, W24005.heap.size = N := ⟨_, rfl⟩
              have HM24006 := Lib.hid hM24006
              have le_M24006 : wq24.heap.size ≤ M24006 := by rw [← hM24006]; exact HX.out.size
              clear hM24006
              have HTS : Hid (RdR W24005 A7 ms 2 (kR K7)) := Lib.hid (by obtain ⟨A8, c8, e8, _, _, _, h8⟩ := RwK.shape HT.out.1; injection e8 with e8 _ _; rw [e8]; exact h8)
              refine wpAnyH_ready (show Region.ready _ _ _ = [5, 10] from by kernel_rfl) (by simp) (consKq (i := 5) (some 125) (.tmp 122) (.tmp 124) rfl rfl (by rfl) rfl rfl (RwK.one KQ.out le_M24002) rfl HT7.out (HTS.out) (by omega) HX.out.size ?_ (consMk (i := 10) (some 20) 46 (pdC pd0) rfl rfl (by rfl) rfl zero_pdP M24006 HM24006.out ?_ AllReadyH.nil))
              · skip
                intro v9 W24007 hr9 hg9 hb9 hv9
                have hX9 := HX.out.trans hb9
                refine ⟨hX9, ?_⟩
                simp only [Act.put, List.setIfInBounds_toArray, List.set_cons_zero, List.set_cons_succ]
                obtain ⟨A9, c9, rfl, hrk, hke, hfk, hfz⟩ := mixB HSG.out HAL.out hr9 (fun j hj => hv9 _ (HT.out.2 j hj)) ((HKEY.out.below HB.out).below hX9) rfl HSN.out
                have HK9 := Lib.hid hrk
                have HKK := Lib.hid (And.intro hke (And.intro hfk hfz))
                have HX9 := Lib.hid hX9
                clear HX hS hX9 hr9 hg9 hb9 hv9 hrk hke hfk hfz HT KQ HAL HT7
                have HX := HX9
                clear HX9
                have hS := HX.out
                obtain ⟨M24008, hM24008⟩ : ∃ N, W24007.heap.size = N := ⟨_, rfl⟩
                have HM24008 := Lib.hid hM24008
                have le_M24008 : wq24.heap.size ≤ M24008 := by rw [← hM24008]; exact HX.out.size
                clear hM24008
                refine wpAnyH_ready (show Region.ready _ _ _ = [6, 10] from by kernel_rfl) (by simp) (consCE (i := 6) (some 126) 22 #[.slice (some ⟨g8, 0, none⟩) N9 cu, .slice A9 (1 + ms) c9] (R := fun v w' => ∃ A4 c4 L4, v = .tuple #[.agg (pdC (withT (rdP q F9) A4 p.m c4)), .int .i64 0] ∧ OwnT w' W24007.heap.size (.slice A4 p.m c4) p.m L4 ∧ IsItZ (tlZ q F9) L4 p.m ∧ Below W24007.heap.size W24007 w') rfl rfl (by rfl) (by go_simp) ((bk_open HSL.out HID.out HNS.out HBK.out (some ⟨g8, 0, none⟩) cu W24007 (Own8.rd (HY8.out.below HX.out)) (fun e => by cases e) HCU.out.1 HCU.out.2 (RT.out.below HX.out RT.out.lt) A9 (1 + ms) c9 (catT (fun _ => ⟨(id : Int), A, sn, sc, k⟩) 1 K7) HK9.out HKK.out.1 _ HKK.out.2.1 (by rw [HKK.out.2.2]) (by rw [HKK.out.2.2])).mono fun e w' h => by obtain ⟨A4, c4, L4, rfl, h1, h2, _, _, _, h3⟩ := h; exact ⟨_, rfl, A4, c4, L4, rfl, h1, h2, h3⟩) (fun v w' h => by obtain ⟨A4, c4, L4, _, _, _, hbt⟩ := h; exact hS.trans (hbt.mono hS.size)) ?_ (consMk (i := 10) (some 20) 46 (pdC pd0) rfl rfl (by rfl) rfl zero_pdP M24008 HM24008.out ?_ AllReadyH.nil))
                · skip
                  intro v W24009 h hS2
                  obtain ⟨A4, c4, L4, rfl, h1, h2, hbt⟩ := h
                  clear hS2
                  simp only [Act.put, List.setIfInBounds_toArray, List.set_cons_zero, List.set_cons_succ]
                  have HO4 : Hid (TwO W24009 W24007.heap.size (.slice A4 p.m c4) p.m L4) := Lib.hid h1
                  have HI4 := Lib.hid h2
                  clear h1 h2 HK9 HKK
                  have HXn := Lib.hid (HX.out.trans (hbt.mono HX.out.size))
                  clear HX
                  have HX := HXn
                  clear HXn
                  clear hbt hS
                  have hS := HX.out
                  refine takeY (i := 7) (some 119) (v := .tuple #[.agg (pdC (withT (rdP q F9) A4 p.m c4)), .int .i64 0]) rfl rfl (by kernel_rfl) (by kernel_rfl) (by kernel_rfl) (fun _ _ _ h => h) (by rfl) (fun w' hS => by go_simp) hS ?_
                  simp only [Act.put, List.setIfInBounds_toArray, List.set_cons_zero, List.set_cons_succ]
                  refine takeY (i := 8) (some 127) (v := .agg (pdC (withT (rdP q F9) A4 p.m c4))) rfl rfl (by kernel_rfl) (by kernel_rfl) (by kernel_rfl) (fun _ _ _ h => h) (by rfl) (fun w' hS => by go_simp) hS ?_
                  simp only [Act.put, List.setIfInBounds_toArray, List.set_cons_zero, List.set_cons_succ]
                  refine takeY (i := 9) (some 128) (v := .int .i64 0) rfl rfl (by kernel_rfl) (by kernel_rfl) (by kernel_rfl) (fun _ _ _ h => h) (by rfl) (fun w' hS => by go_simp) hS ?_
                  simp only [Act.put, List.setIfInBounds_toArray, List.set_cons_zero, List.set_cons_succ]
                  obtain ⟨M24010, hM24010⟩ : ∃ N, W24009.heap.size = N := ⟨_, rfl⟩
                  have HM24010 := Lib.hid hM24010
                  have le_M24010 : wq24.heap.size ≤ M24010 := by rw [← hM24010]; exact HX.out.size
                  clear hM24010
                  refine takeMk (i := 10) (some 20) 46 (pdC pd0) rfl rfl (by kernel_rfl) (by rfl) rfl zero_pdP M24010 HM24010.out ?_
                  intro W24011 k1 b1 s1
                  refine ⟨hS.trans (b1.mono hS.size), ?_⟩
                  simp only [Act.put, List.setIfInBounds_toArray, List.set_cons_zero, List.set_cons_succ]
                  have K4 : Hid (BlO 46 W24011 M24010 (pdC pd0)) := Lib.hid k1
                  clear k1
                  have HO4n := Lib.hid (HO4.out.below b1)
                  clear HO4
                  have HO4 := HO4n
                  clear HO4n
                  have HXn := Lib.hid (HX.out.trans (b1.mono HX.out.size))
                  clear HX
                  have HX := HXn
                  clear HXn
                  clear b1 hS
                  have hS := HX.out
                  refine takeSt (i := 11) 46 (.tmp 20) (.tmp 127) M24010 0 (.agg (pdC (withT (rdP q F9) A4 p.m c4))) (pdC (withT (rdP q F9) A4 p.m c4)) (pdC (withT (rdP q F9) A4 p.m c4)) rfl rfl (by kernel_rfl) (by rfl) rfl rfl rfl rfl info_pdP (pdC_one _) K4.out (Nat.le_of_ble_eq_true rfl) (pd_over _ _) ?_
                  intro W24012 q1
                  have hX9 := Lib.hid (HX.out.trans (q1.2.1 _ le_M24010))
                  refine ⟨hX9.out, ?_⟩
                  simp only [Act.put, List.setIfInBounds_toArray, List.set_cons_zero, List.set_cons_succ]
                  have K4x : Hid (Blk 46 W24012 M24010 (pdC (withT (rdP q F9) A4 p.m c4))) := Lib.hid q1.1
                  have HO4x := Lib.hid (OwnT.farT HO4.out K4.out q1)
                  clear q1 hS
                  have hS := hX9.out
                  refine takeY (i := 12) (some 21) (v := .int .i64 0) rfl rfl (by kernel_rfl) (by kernel_rfl) (by kernel_rfl) (fun _ _ _ h => h) (by rfl) (fun w' hS => by go_simp) hS ?_
                  simp only [Act.put, List.setIfInBounds_toArray, List.set_cons_zero, List.set_cons_succ]
                  clear hS
                  refine wpAnyH_done (by kernel_rfl) ?_ _
                  go_wp2_with fail
                  go_meet
                  case rel => exact ⟨M24010, A4, c4, L4, _, rfl, rfl, K4x, HO4x, HI4, hX9⟩
                · skip
                  intro W24009 k1 b1 s1
                  refine ⟨hS.trans (b1.mono hS.size), ?_⟩
                  simp only [Act.put, List.setIfInBounds_toArray, List.set_cons_zero, List.set_cons_succ]
                  have K4 : Hid (BlO 46 W24009 M24008 (pdC pd0)) := Lib.hid k1
                  clear k1
                  have HK9n := Lib.hid (HK9.out.below b1)
                  clear HK9
                  have HK9 := HK9n
                  clear HK9n
                  have HXn := Lib.hid (HX.out.trans (b1.mono HX.out.size))
                  clear HX
                  have HX := HXn
                  clear HXn
                  clear b1 hS
                  have hS := HX.out
                  refine takeCE (i := 6) (some 126) 22 #[.slice (some ⟨g8, 0, none⟩) N9 cu, .slice A9 (1 + ms) c9] (R := fun v w' => ∃ A4 c4 L4, v = .tuple #[.agg (pdC (withT (rdP q F9) A4 p.m c4)), .int .i64 0] ∧ OwnT w' W24009.heap.size (.slice A4 p.m c4) p.m L4 ∧ IsItZ (tlZ q F9) L4 p.m ∧ Below W24009.heap.size W24009 w') rfl rfl (by kernel_rfl) (by rfl) (by go_simp) ((bk_open HSL.out HID.out HNS.out HBK.out (some ⟨g8, 0, none⟩) cu W24009 (Own8.rd (HY8.out.below HX.out)) (fun e => by cases e) HCU.out.1 HCU.out.2 (RT.out.below HX.out RT.out.lt) A9 (1 + ms) c9 (catT (fun _ => ⟨(id : Int), A, sn, sc, k⟩) 1 K7) HK9.out HKK.out.1 _ HKK.out.2.1 (by rw [HKK.out.2.2]) (by rw [HKK.out.2.2])).mono fun e w' h => by obtain ⟨A4, c4, L4, rfl, h1, h2, _, _, _, h3⟩ := h; exact ⟨_, rfl, A4, c4, L4, rfl, h1, h2, h3⟩) (fun v w' h => by obtain ⟨A4, c4, L4, _, _, _, hbt⟩ := h; exact hS.trans (hbt.mono hS.size)) ?_
                  intro v W24010 h hS2
                  obtain ⟨A4, c4, L4, rfl, h1, h2, hbt⟩ := h
                  clear hS2
                  simp only [Act.put, List.setIfInBounds_toArray, List.set_cons_zero, List.set_cons_succ]
                  have HO4 : Hid (TwO W24010 W24009.heap.size (.slice A4 p.m c4) p.m L4) := Lib.hid h1
                  have HI4 := Lib.hid h2
                  clear h1 h2 HK9 HKK
                  have K4n := Lib.hid (K4.out.below hbt)
                  clear K4
                  have K4 := K4n
                  clear K4n
                  have HXn := Lib.hid (HX.out.trans (hbt.mono HX.out.size))
                  clear HX
                  have HX := HXn
                  clear HXn
                  clear hbt hS
                  have hS := HX.out
                  refine takeY (i := 7) (some 119) (v := .tuple #[.agg (pdC (withT (rdP q F9) A4 p.m c4)), .int .i64 0]) rfl rfl (by kernel_rfl) (by kernel_rfl) (by kernel_rfl) (fun _ _ _ h => h) (by rfl) (fun w' hS => by go_simp) hS ?_
                  simp only [Act.put, List.setIfInBounds_toArray, List.set_cons_zero, List.set_cons_succ]
                  refine takeY (i := 8) (some 127) (v := .agg (pdC (withT (rdP q F9) A4 p.m c4))) rfl rfl (by kernel_rfl) (by kernel_rfl) (by kernel_rfl) (fun _ _ _ h => h) (by rfl) (fun w' hS => by go_simp) hS ?_
                  simp only [Act.put, List.setIfInBounds_toArray, List.set_cons_zero, List.set_cons_succ]
                  refine takeY (i := 9) (some 128) (v := .int .i64 0) rfl rfl (by kernel_rfl) (by kernel_rfl) (by kernel_rfl) (fun _ _ _ h => h) (by rfl) (fun w' hS => by go_simp) hS ?_
                  simp only [Act.put, List.setIfInBounds_toArray, List.set_cons_zero, List.set_cons_succ]
                  refine takeSt (i := 11) 46 (.tmp 20) (.tmp 127) M24008 0 (.agg (pdC (withT (rdP q F9) A4 p.m c4))) (pdC (withT (rdP q F9) A4 p.m c4)) (pdC (withT (rdP q F9) A4 p.m c4)) rfl rfl (by kernel_rfl) (by rfl) rfl rfl rfl rfl info_pdP (pdC_one _) K4.out (Nat.le_of_ble_eq_true rfl) (pd_over _ _) ?_
                  intro W24011 q1
                  have hX9 := Lib.hid (HX.out.trans (q1.2.1 _ le_M24008))
                  refine ⟨hX9.out, ?_⟩
                  simp only [Act.put, List.setIfInBounds_toArray, List.set_cons_zero, List.set_cons_succ]
                  have K4x : Hid (Blk 46 W24011 M24008 (pdC (withT (rdP q F9) A4 p.m c4))) := Lib.hid q1.1
                  have HO4x := Lib.hid (OwnT.farT HO4.out K4.out q1)
                  clear q1 hS
                  have hS := hX9.out
                  refine takeY (i := 12) (some 21) (v := .int .i64 0) rfl rfl (by kernel_rfl) (by kernel_rfl) (by kernel_rfl) (fun _ _ _ h => h) (by rfl) (fun w' hS => by go_simp) hS ?_
                  simp only [Act.put, List.setIfInBounds_toArray, List.set_cons_zero, List.set_cons_succ]
                  clear hS
                  refine wpAnyH_done (by kernel_rfl) ?_ _
                  go_wp2_with fail
                  go_meet
                  case rel => exact ⟨M24008, A4, c4, L4, _, rfl, rfl, K4x, HO4x, HI4, hX9⟩
              · skip
                intro W24007 k1 b1 s1
                refine ⟨hS.trans (b1.mono hS.size), ?_⟩
                simp only [Act.put, List.setIfInBounds_toArray, List.set_cons_zero, List.set_cons_succ]
                have K4 : Hid (BlO 46 W24007 M24006 (pdC pd0)) := Lib.hid k1
                clear k1
                have KQn := Lib.hid (KQ.out.below b1)
                clear KQ
                have KQ := KQn
                clear KQn
                have HTn := Lib.hid (HT.out.below b1)
                clear HT
                have HT := HTn
                clear HTn
                have HXn := Lib.hid (HX.out.trans (b1.mono HX.out.size))
                clear HX
                have HX := HXn
                clear HXn
                clear b1 hS
                have hS := HX.out
                have HTS : Hid (RdR W24007 A7 ms 2 (kR K7)) := Lib.hid (by obtain ⟨A8, c8, e8, _, _, _, h8⟩ := RwK.shape HT.out.1; injection e8 with e8 _ _; rw [e8]; exact h8)
                refine takeKq (i := 5) (some 125) (.tmp 122) (.tmp 124) rfl rfl (by kernel_rfl) (by rfl) rfl rfl (RwK.one KQ.out le_M24002) rfl HT7.out (HTS.out) (by omega) HX.out.size ?_
                intro v9 W24008 hr9 hg9 hb9 hv9
                have hX9 := HX.out.trans hb9
                refine ⟨hX9, ?_⟩
                simp only [Act.put, List.setIfInBounds_toArray, List.set_cons_zero, List.set_cons_succ]
                obtain ⟨A9, c9, rfl, hrk, hke, hfk, hfz⟩ := mixB HSG.out HAL.out hr9 (fun j hj => hv9 _ (HT.out.2 j hj)) ((HKEY.out.below HB.out).below hX9) rfl HSN.out
                have HK9 := Lib.hid hrk
                have HKK := Lib.hid (And.intro hke (And.intro hfk hfz))
                have K4n : Hid (BlO 46 W24008 M24006 (pdC pd0)) := Lib.hid (blk_grownK K4.out (RwK.one KQ.out le_M24002) hg9)
                clear K4
                have K4 := K4n
                clear K4n
                have HX9 := Lib.hid hX9
                clear HX hS hX9 hr9 hg9 hb9 hv9 hrk hke hfk hfz HT KQ HAL HT7
                have HX := HX9
                clear HX9
                have hS := HX.out
                refine takeCE (i := 6) (some 126) 22 #[.slice (some ⟨g8, 0, none⟩) N9 cu, .slice A9 (1 + ms) c9] (R := fun v w' => ∃ A4 c4 L4, v = .tuple #[.agg (pdC (withT (rdP q F9) A4 p.m c4)), .int .i64 0] ∧ OwnT w' W24008.heap.size (.slice A4 p.m c4) p.m L4 ∧ IsItZ (tlZ q F9) L4 p.m ∧ Below W24008.heap.size W24008 w') rfl rfl (by kernel_rfl) (by rfl) (by go_simp) ((bk_open HSL.out HID.out HNS.out HBK.out (some ⟨g8, 0, none⟩) cu W24008 (Own8.rd (HY8.out.below HX.out)) (fun e => by cases e) HCU.out.1 HCU.out.2 (RT.out.below HX.out RT.out.lt) A9 (1 + ms) c9 (catT (fun _ => ⟨(id : Int), A, sn, sc, k⟩) 1 K7) HK9.out HKK.out.1 _ HKK.out.2.1 (by rw [HKK.out.2.2]) (by rw [HKK.out.2.2])).mono fun e w' h => by obtain ⟨A4, c4, L4, rfl, h1, h2, _, _, _, h3⟩ := h; exact ⟨_, rfl, A4, c4, L4, rfl, h1, h2, h3⟩) (fun v w' h => by obtain ⟨A4, c4, L4, _, _, _, hbt⟩ := h; exact hS.trans (hbt.mono hS.size)) ?_
                intro v W24009 h hS2
                obtain ⟨A4, c4, L4, rfl, h1, h2, hbt⟩ := h
                clear hS2
                simp only [Act.put, List.setIfInBounds_toArray, List.set_cons_zero, List.set_cons_succ]
                have HO4 : Hid (TwO W24009 W24008.heap.size (.slice A4 p.m c4) p.m L4) := Lib.hid h1
                have HI4 := Lib.hid h2
                clear h1 h2 HK9 HKK
                have K4n := Lib.hid (K4.out.below hbt)
                clear K4
                have K4 := K4n
                clear K4n
                have HXn := Lib.hid (HX.out.trans (hbt.mono HX.out.size))
                clear HX
                have HX := HXn
                clear HXn
                clear hbt hS
                have hS := HX.out
                refine takeY (i := 7) (some 119) (v := .tuple #[.agg (pdC (withT (rdP q F9) A4 p.m c4)), .int .i64 0]) rfl rfl (by kernel_rfl) (by kernel_rfl) (by kernel_rfl) (fun _ _ _ h => h) (by rfl) (fun w' hS => by go_simp) hS ?_
                simp only [Act.put, List.setIfInBounds_toArray, List.set_cons_zero, List.set_cons_succ]
                refine takeY (i := 8) (some 127) (v := .agg (pdC (withT (rdP q F9) A4 p.m c4))) rfl rfl (by kernel_rfl) (by kernel_rfl) (by kernel_rfl) (fun _ _ _ h => h) (by rfl) (fun w' hS => by go_simp) hS ?_
                simp only [Act.put, List.setIfInBounds_toArray, List.set_cons_zero, List.set_cons_succ]
                refine takeY (i := 9) (some 128) (v := .int .i64 0) rfl rfl (by kernel_rfl) (by kernel_rfl) (by kernel_rfl) (fun _ _ _ h => h) (by rfl) (fun w' hS => by go_simp) hS ?_
                simp only [Act.put, List.setIfInBounds_toArray, List.set_cons_zero, List.set_cons_succ]
                refine takeSt (i := 11) 46 (.tmp 20) (.tmp 127) M24006 0 (.agg (pdC (withT (rdP q F9) A4 p.m c4))) (pdC (withT (rdP q F9) A4 p.m c4)) (pdC (withT (rdP q F9) A4 p.m c4)) rfl rfl (by kernel_rfl) (by rfl) rfl rfl rfl rfl info_pdP (pdC_one _) K4.out (Nat.le_of_ble_eq_true rfl) (pd_over _ _) ?_
                intro W24010 q1
                have hX9 := Lib.hid (HX.out.trans (q1.2.1 _ le_M24006))
                refine ⟨hX9.out, ?_⟩
                simp only [Act.put, List.setIfInBounds_toArray, List.set_cons_zero, List.set_cons_succ]
                have K4x : Hid (Blk 46 W24010 M24006 (pdC (withT (rdP q F9) A4 p.m c4))) := Lib.hid q1.1
                have HO4x := Lib.hid (OwnT.farT HO4.out K4.out q1)
                clear q1 hS
                have hS := hX9.out
                refine takeY (i := 12) (some 21) (v := .int .i64 0) rfl rfl (by kernel_rfl) (by kernel_rfl) (by kernel_rfl) (fun _ _ _ h => h) (by rfl) (fun w' hS => by go_simp) hS ?_
                simp only [Act.put, List.setIfInBounds_toArray, List.set_cons_zero, List.set_cons_succ]
                clear hS
                refine wpAnyH_done (by kernel_rfl) ?_ _
                go_wp2_with fail
                go_meet
                case rel => exact ⟨M24006, A4, c4, L4, _, rfl, rfl, K4x, HO4x, HI4, hX9⟩
            · skip
              intro W24005 k1 b1 s1
              refine ⟨hS.trans (b1.mono hS.size), ?_⟩
              simp only [Act.put, List.setIfInBounds_toArray, List.set_cons_zero, List.set_cons_succ]
              have K4 : Hid (BlO 46 W24005 M24004 (pdC pd0)) := Lib.hid k1
              clear k1
              have KQn := Lib.hid (KQ.out.below b1)
              clear KQ
              have KQ := KQn
              clear KQn
              have HXn := Lib.hid (HX.out.trans (b1.mono HX.out.size))
              clear HX
              have HX := HXn
              clear HXn
              clear b1 hS
              have hS := HX.out
              refine takeCE (i := 4) (some 124) 17 #[.slice AS ms cS] (R := fun v w' => ∃ K7, OwnK w' W24005.heap.size v ms K7 ∧ (∀ j, j < ms → Alike (KS j) (K7 j)) ∧ Below W24005.heap.size W24005 w') rfl rfl (by kernel_rfl) (by rfl) (by go_simp) ((twinK_any AS ms cS KS W24005 (HRS.out.below HX.out) (by omega)).mono fun e w' h => h.elim fun v h => h.elim fun K7 h => ⟨v, h.1, K7, h.2⟩) (fun v w' h => by obtain ⟨K7, h1, h2, hbt⟩ := h; exact hS.trans (hbt.mono hS.size)) ?_
              intro v W24006 h hS2
              obtain ⟨K7, h1, h2, hbt⟩ := h
              obtain ⟨A7, c7, rfl, _, _, h7, h8⟩ := h1.shape
              clear hS2
              simp only [Act.put, List.setIfInBounds_toArray, List.set_cons_zero, List.set_cons_succ]
              have HT : Hid (OwKO W24006 wq24.heap.size (.slice A7 ms c7) ms K7) := Lib.hid (OwnK.le h1 HX.out.size)
              have HAL := Lib.hid h2
              have HT7 := Lib.hid h7
              clear h1 h2 h7 h8
              have KQn := Lib.hid (KQ.out.below hbt)
              clear KQ
              have KQ := KQn
              clear KQn
              have K4n := Lib.hid (K4.out.below hbt)
              clear K4
              have K4 := K4n
              clear K4n
              have HXn := Lib.hid (HX.out.trans (hbt.mono HX.out.size))
              clear HX
              have HX := HXn
              clear HXn
              clear hbt hS
              have hS := HX.out
              have HTS : Hid (RdR W24006 A7 ms 2 (kR K7)) := Lib.hid (by obtain ⟨A8, c8, e8, _, _, _, h8⟩ := RwK.shape HT.out.1; injection e8 with e8 _ _; rw [e8]; exact h8)
              refine takeKq (i := 5) (some 125) (.tmp 122) (.tmp 124) rfl rfl (by kernel_rfl) (by rfl) rfl rfl (RwK.one KQ.out le_M24002) rfl HT7.out (HTS.out) (by omega) HX.out.size ?_
              intro v9 W24007 hr9 hg9 hb9 hv9
              have hX9 := HX.out.trans hb9
              refine ⟨hX9, ?_⟩
              simp only [Act.put, List.setIfInBounds_toArray, List.set_cons_zero, List.set_cons_succ]
              obtain ⟨A9, c9, rfl, hrk, hke, hfk, hfz⟩ := mixB HSG.out HAL.out hr9 (fun j hj => hv9 _ (HT.out.2 j hj)) ((HKEY.out.below HB.out).below hX9) rfl HSN.out
              have HK9 := Lib.hid hrk
              have HKK := Lib.hid (And.intro hke (And.intro hfk hfz))
              have K4n : Hid (BlO 46 W24007 M24004 (pdC pd0)) := Lib.hid (blk_grownK K4.out (RwK.one KQ.out le_M24002) hg9)
              clear K4
              have K4 := K4n
              clear K4n
              have HX9 := Lib.hid hX9
              clear HX hS hX9 hr9 hg9 hb9 hv9 hrk hke hfk hfz HT KQ HAL HT7
              have HX := HX9
              clear HX9
              have hS := HX.out
              refine takeCE (i := 6) (some 126) 22 #[.slice (some ⟨g8, 0, none⟩) N9 cu, .slice A9 (1 + ms) c9] (R := fun v w' => ∃ A4 c4 L4, v = .tuple #[.agg (pdC (withT (rdP q F9) A4 p.m c4)), .int .i64 0] ∧ OwnT w' W24007.heap.size (.slice A4 p.m c4) p.m L4 ∧ IsItZ (tlZ q F9) L4 p.m ∧ Below W24007.heap.size W24007 w') rfl rfl (by kernel_rfl) (by rfl) (by go_simp) ((bk_open HSL.out HID.out HNS.out HBK.out (some ⟨g8, 0, none⟩) cu W24007 (Own8.rd (HY8.out.below HX.out)) (fun e => by cases e) HCU.out.1 HCU.out.2 (RT.out.below HX.out RT.out.lt) A9 (1 + ms) c9 (catT (fun _ => ⟨(id : Int), A, sn, sc, k⟩) 1 K7) HK9.out HKK.out.1 _ HKK.out.2.1 (by rw [HKK.out.2.2]) (by rw [HKK.out.2.2])).mono fun e w' h => by obtain ⟨A4, c4, L4, rfl, h1, h2, _, _, _, h3⟩ := h; exact ⟨_, rfl, A4, c4, L4, rfl, h1, h2, h3⟩) (fun v w' h => by obtain ⟨A4, c4, L4, _, _, _, hbt⟩ := h; exact hS.trans (hbt.mono hS.size)) ?_
              intro v W24008 h hS2
              obtain ⟨A4, c4, L4, rfl, h1, h2, hbt⟩ := h
              clear hS2
              simp only [Act.put, List.setIfInBounds_toArray, List.set_cons_zero, List.set_cons_succ]
              have HO4 : Hid (TwO W24008 W24007.heap.size (.slice A4 p.m c4) p.m L4) := Lib.hid h1
              have HI4 := Lib.hid h2
              clear h1 h2 HK9 HKK
              have K4n := Lib.hid (K4.out.below hbt)
              clear K4
              have K4 := K4n
              clear K4n
              have HXn := Lib.hid (HX.out.trans (hbt.mono HX.out.size))
              clear HX
              have HX := HXn
              clear HXn
              clear hbt hS
              have hS := HX.out
              refine takeY (i := 7) (some 119) (v := .tuple #[.agg (pdC (withT (rdP q F9) A4 p.m c4)), .int .i64 0]) rfl rfl (by kernel_rfl) (by kernel_rfl) (by kernel_rfl) (fun _ _ _ h => h) (by rfl) (fun w' hS => by go_simp) hS ?_
              simp only [Act.put, List.setIfInBounds_toArray, List.set_cons_zero, List.set_cons_succ]
              refine takeY (i := 8) (some 127) (v := .agg (pdC (withT (rdP q F9) A4 p.m c4))) rfl rfl (by kernel_rfl) (by kernel_rfl) (by kernel_rfl) (fun _ _ _ h => h) (by rfl) (fun w' hS => by go_simp) hS ?_
              simp only [Act.put, List.setIfInBounds_toArray, List.set_cons_zero, List.set_cons_succ]
              refine takeY (i := 9) (some 128) (v := .int .i64 0) rfl rfl (by kernel_rfl) (by kernel_rfl) (by kernel_rfl) (fun _ _ _ h => h) (by rfl) (fun w' hS => by go_simp) hS ?_
              simp only [Act.put, List.setIfInBounds_toArray, List.set_cons_zero, List.set_cons_succ]
              refine takeSt (i := 11) 46 (.tmp 20) (.tmp 127) M24004 0 (.agg (pdC (withT (rdP q F9) A4 p.m c4))) (pdC (withT (rdP q F9) A4 p.m c4)) (pdC (withT (rdP q F9) A4 p.m c4)) rfl rfl (by kernel_rfl) (by rfl) rfl rfl rfl rfl info_pdP (pdC_one _) K4.out (Nat.le_of_ble_eq_true rfl) (pd_over _ _) ?_
              intro W24009 q1
              have hX9 := Lib.hid (HX.out.trans (q1.2.1 _ le_M24004))
              refine ⟨hX9.out, ?_⟩
              simp only [Act.put, List.setIfInBounds_toArray, List.set_cons_zero, List.set_cons_succ]
              have K4x : Hid (Blk 46 W24009 M24004 (pdC (withT (rdP q F9) A4 p.m c4))) := Lib.hid q1.1
              have HO4x := Lib.hid (OwnT.farT HO4.out K4.out q1)
              clear q1 hS
              have hS := hX9.out
              refine takeY (i := 12) (some 21) (v := .int .i64 0) rfl rfl (by kernel_rfl) (by kernel_rfl) (by kernel_rfl) (fun _ _ _ h => h) (by rfl) (fun w' hS => by go_simp) hS ?_
              simp only [Act.put, List.setIfInBounds_toArray, List.set_cons_zero, List.set_cons_succ]
              clear hS
              refine wpAnyH_done (by kernel_rfl) ?_ _
              go_wp2_with fail
              go_meet
              case rel => exact ⟨M24004, A4, c4, L4, _, rfl, rfl, K4x, HO4x, HI4, hX9⟩
          · skip
            intro v W24003 h hS2
            obtain ⟨K7, h1, h2, hbt⟩ := h
            obtain ⟨A7, c7, rfl, _, _, h7, h8⟩ := h1.shape
            clear hS2
            simp only [Act.put, List.setIfInBounds_toArray, List.set_cons_zero, List.set_cons_succ]
            have HT : Hid (OwKO W24003 wq24.heap.size (.slice A7 ms c7) ms K7) := Lib.hid (OwnK.le h1 HX.out.size)
            have HAL := Lib.hid h2
            have HT7 := Lib.hid h7
            clear h1 h2 h7 h8
            have HXn := Lib.hid (HX.out.trans (hbt.mono HX.out.size))
            clear HX
            have HX := HXn
            clear HXn
            clear hbt hS
            have hS := HX.out
            obtain ⟨M24004, hM24004⟩ : ∃ N, W24003.heap.size = N := ⟨_, rfl⟩
            have HM24004 := Lib.hid hM24004
            have le_M24004 : wq24.heap.size ≤ M24004 := by rw [← hM24004]; exact HX.out.size
            clear hM24004
            refine wpAnyH_ready (show Region.ready _ _ _ = [2, 10] from by kernel_rfl) (by simp) (consBsn (i := 2) (some 122) 1 45 (kC ⟨(id : Int), A, sn, sc, k⟩) rfl rfl (by rfl) (bs_key _ _ _ rfl ⟨(id : Int), A, sn, sc, k⟩ rfl) M24004 HM24004.out ?_ (consMk (i := 10) (some 20) 46 (pdC pd0) rfl rfl (by rfl) rfl zero_pdP M24004 HM24004.out ?_ AllReadyH.nil))
            · skip
              intro W24005 k1 b1 s1
              refine ⟨hS.trans (b1.mono hS.size), ?_⟩
              simp only [Act.put, List.setIfInBounds_toArray, List.set_cons_zero, List.set_cons_succ]
              have KQ : Hid (BlO 45 W24005 M24004 (kC ⟨(id : Int), A, sn, sc, k⟩)) := Lib.hid k1
              clear k1
              have HTn := Lib.hid (HT.out.below b1)
              clear HT
              have HT := HTn
              clear HTn
              have HXn := Lib.hid (HX.out.trans (b1.mono HX.out.size))
              clear HX
              have HX := HXn
              clear HXn
              clear b1 hS
              have hS := HX.out
              obtain ⟨M24006, hM24006⟩ : ∃ N, W24005.heap.size = N := ⟨_, rfl⟩
              have HM24006 := Lib.hid hM24006
              have le_M24006 : wq24.heap.size ≤ M24006 := by rw [← hM24006]; exact HX.out.size
              clear hM24006
              have HTS : Hid (RdR W24005 A7 ms 2 (kR K7)) := Lib.hid (by obtain ⟨A8, c8, e8, _, _, _, h8⟩ := RwK.shape HT.out.1; injection e8 with e8 _ _; rw [e8]; exact h8)
              refine wpAnyH_ready (show Region.ready _ _ _ = [5, 10] from by kernel_rfl) (by simp) (consKq (i := 5) (some 125) (.tmp 122) (.tmp 124) rfl rfl (by rfl) rfl rfl (RwK.one KQ.out le_M24004) rfl HT7.out (HTS.out) (by omega) HX.out.size ?_ (consMk (i := 10) (some 20) 46 (pdC pd0) rfl rfl (by rfl) rfl zero_pdP M24006 HM24006.out ?_ AllReadyH.nil))
              · skip
                intro v9 W24007 hr9 hg9 hb9 hv9
                have hX9 := HX.out.trans hb9
                refine ⟨hX9, ?_⟩
                simp only [Act.put, List.setIfInBounds_toArray, List.set_cons_zero, List.set_cons_succ]
                obtain ⟨A9, c9, rfl, hrk, hke, hfk, hfz⟩ := mixB HSG.out HAL.out hr9 (fun j hj => hv9 _ (HT.out.2 j hj)) ((HKEY.out.below HB.out).below hX9) rfl HSN.out
                have HK9 := Lib.hid hrk
                have HKK := Lib.hid (And.intro hke (And.intro hfk hfz))
                have HX9 := Lib.hid hX9
                clear HX hS hX9 hr9 hg9 hb9 hv9 hrk hke hfk hfz HT KQ HAL HT7
                have HX := HX9
                clear HX9
                have hS := HX.out
                obtain ⟨M24008, hM24008⟩ : ∃ N, W24007.heap.size = N := ⟨_, rfl⟩
                have HM24008 := Lib.hid hM24008
                have le_M24008 : wq24.heap.size ≤ M24008 := by rw [← hM24008]; exact HX.out.size
                clear hM24008
                refine wpAnyH_ready (show Region.ready _ _ _ = [6, 10] from by kernel_rfl) (by simp) (consCE (i := 6) (some 126) 22 #[.slice (some ⟨g8, 0, none⟩) N9 cu, .slice A9 (1 + ms) c9] (R := fun v w' => ∃ A4 c4 L4, v = .tuple #[.agg (pdC (withT (rdP q F9) A4 p.m c4)), .int .i64 0] ∧ OwnT w' W24007.heap.size (.slice A4 p.m c4) p.m L4 ∧ IsItZ (tlZ q F9) L4 p.m ∧ Below W24007.heap.size W24007 w') rfl rfl (by rfl) (by go_simp) ((bk_open HSL.out HID.out HNS.out HBK.out (some ⟨g8, 0, none⟩) cu W24007 (Own8.rd (HY8.out.below HX.out)) (fun e => by cases e) HCU.out.1 HCU.out.2 (RT.out.below HX.out RT.out.lt) A9 (1 + ms) c9 (catT (fun _ => ⟨(id : Int), A, sn, sc, k⟩) 1 K7) HK9.out HKK.out.1 _ HKK.out.2.1 (by rw [HKK.out.2.2]) (by rw [HKK.out.2.2])).mono fun e w' h => by obtain ⟨A4, c4, L4, rfl, h1, h2, _, _, _, h3⟩ := h; exact ⟨_, rfl, A4, c4, L4, rfl, h1, h2, h3⟩) (fun v w' h => by obtain ⟨A4, c4, L4, _, _, _, hbt⟩ := h; exact hS.trans (hbt.mono hS.size)) ?_ (consMk (i := 10) (some 20) 46 (pdC pd0) rfl rfl (by rfl) rfl zero_pdP M24008 HM24008.out ?_ AllReadyH.nil))
                · skip
                  intro v W24009 h hS2
                  obtain ⟨A4, c4, L4, rfl, h1, h2, hbt⟩ := h
                  clear hS2
                  simp only [Act.put, List.setIfInBounds_toArray, List.set_cons_zero, List.set_cons_succ]
                  have HO4 : Hid (TwO W24009 W24007.heap.size (.slice A4 p.m c4) p.m L4) := Lib.hid h1
                  have HI4 := Lib.hid h2
                  clear h1 h2 HK9 HKK
                  have HXn := Lib.hid (HX.out.trans (hbt.mono HX.out.size))
                  clear HX
                  have HX := HXn
                  clear HXn
                  clear hbt hS
                  have hS := HX.out
                  refine takeY (i := 7) (some 119) (v := .tuple #[.agg (pdC (withT (rdP q F9) A4 p.m c4)), .int .i64 0]) rfl rfl (by kernel_rfl) (by kernel_rfl) (by kernel_rfl) (fun _ _ _ h => h) (by rfl) (fun w' hS => by go_simp) hS ?_
                  simp only [Act.put, List.setIfInBounds_toArray, List.set_cons_zero, List.set_cons_succ]
                  refine takeY (i := 8) (some 127) (v := .agg (pdC (withT (rdP q F9) A4 p.m c4))) rfl rfl (by kernel_rfl) (by kernel_rfl) (by kernel_rfl) (fun _ _ _ h => h) (by rfl) (fun w' hS => by go_simp) hS ?_
                  simp only [Act.put, List.setIfInBounds_toArray, List.set_cons_zero, List.set_cons_succ]
                  refine takeY (i := 9) (some 128) (v := .int .i64 0) rfl rfl (by kernel_rfl) (by kernel_rfl) (by kernel_rfl) (fun _ _ _ h => h) (by rfl) (fun w' hS => by go_simp) hS ?_
                  simp only [Act.put, List.setIfInBounds_toArray, List.set_cons_zero, List.set_cons_succ]
                  obtain ⟨M24010, hM24010⟩ : ∃ N, W24009.heap.size = N := ⟨_, rfl⟩
                  have HM24010 := Lib.hid hM24010
                  have le_M24010 : wq24.heap.size ≤ M24010 := by rw [← hM24010]; exact HX.out.size
                  clear hM24010
                  refine takeMk (i := 10) (some 20) 46 (pdC pd0) rfl rfl (by kernel_rfl) (by rfl) rfl zero_pdP M24010 HM24010.out ?_
                  intro W24011 k1 b1 s1
                  refine ⟨hS.trans (b1.mono hS.size), ?_⟩
                  simp only [Act.put, List.setIfInBounds_toArray, List.set_cons_zero, List.set_cons_succ]
                  have K4 : Hid (BlO 46 W24011 M24010 (pdC pd0)) := Lib.hid k1
                  clear k1
                  have HO4n := Lib.hid (HO4.out.below b1)
                  clear HO4
                  have HO4 := HO4n
                  clear HO4n
                  have HXn := Lib.hid (HX.out.trans (b1.mono HX.out.size))
                  clear HX
                  have HX := HXn
                  clear HXn
                  clear b1 hS
                  have hS := HX.out
                  refine takeSt (i := 11) 46 (.tmp 20) (.tmp 127) M24010 0 (.agg (pdC (withT (rdP q F9) A4 p.m c4))) (pdC (withT (rdP q F9) A4 p.m c4)) (pdC (withT (rdP q F9) A4 p.m c4)) rfl rfl (by kernel_rfl) (by rfl) rfl rfl rfl rfl info_pdP (pdC_one _) K4.out (Nat.le_of_ble_eq_true rfl) (pd_over _ _) ?_
                  intro W24012 q1
                  have hX9 := Lib.hid (HX.out.trans (q1.2.1 _ le_M24010))
                  refine ⟨hX9.out, ?_⟩
                  simp only [Act.put, List.setIfInBounds_toArray, List.set_cons_zero, List.set_cons_succ]
                  have K4x : Hid (Blk 46 W24012 M24010 (pdC (withT (rdP q F9) A4 p.m c4))) := Lib.hid q1.1
                  have HO4x := Lib.hid (OwnT.farT HO4.out K4.out q1)
                  clear q1 hS
                  have hS := hX9.out
                  refine takeY (i := 12) (some 21) (v := .int .i64 0) rfl rfl (by kernel_rfl) (by kernel_rfl) (by kernel_rfl) (fun _ _ _ h => h) (by rfl) (fun w' hS => by go_simp) hS ?_
                  simp only [Act.put, List.setIfInBounds_toArray, List.set_cons_zero, List.set_cons_succ]
                  clear hS
                  refine wpAnyH_done (by kernel_rfl) ?_ _
                  go_wp2_with fail
                  go_meet
                  case rel => exact ⟨M24010, A4, c4, L4, _, rfl, rfl, K4x, HO4x, HI4, hX9⟩
                · skip
                  intro W24009 k1 b1 s1
                  refine ⟨hS.trans (b1.mono hS.size), ?_⟩
                  simp only [Act.put, List.setIfInBounds_toArray, List.set_cons_zero, List.set_cons_succ]
                  have K4 : Hid (BlO 46 W24009 M24008 (pdC pd0)) := Lib.hid k1
                  clear k1
                  have HK9n := Lib.hid (HK9.out.below b1)
                  clear HK9
                  have HK9 := HK9n
                  clear HK9n
                  have HXn := Lib.hid (HX.out.trans (b1.mono HX.out.size))
                  clear HX
                  have HX := HXn
                  clear HXn
                  clear b1 hS
                  have hS := HX.out
                  refine takeCE (i := 6) (some 126) 22 #[.slice (some ⟨g8, 0, none⟩) N9 cu, .slice A9 (1 + ms) c9] (R := fun v w' => ∃ A4 c4 L4, v = .tuple #[.agg (pdC (withT (rdP q F9) A4 p.m c4)), .int .i64 0] ∧ OwnT w' W24009.heap.size (.slice A4 p.m c4) p.m L4 ∧ IsItZ (tlZ q F9) L4 p.m ∧ Below W24009.heap.size W24009 w') rfl rfl (by kernel_rfl) (by rfl) (by go_simp) ((bk_open HSL.out HID.out HNS.out HBK.out (some ⟨g8, 0, none⟩) cu W24009 (Own8.rd (HY8.out.below HX.out)) (fun e => by cases e) HCU.out.1 HCU.out.2 (RT.out.below HX.out RT.out.lt) A9 (1 + ms) c9 (catT (fun _ => ⟨(id : Int), A, sn, sc, k⟩) 1 K7) HK9.out HKK.out.1 _ HKK.out.2.1 (by rw [HKK.out.2.2]) (by rw [HKK.out.2.2])).mono fun e w' h => by obtain ⟨A4, c4, L4, rfl, h1, h2, _, _, _, h3⟩ := h; exact ⟨_, rfl, A4, c4, L4, rfl, h1, h2, h3⟩) (fun v w' h => by obtain ⟨A4, c4, L4, _, _, _, hbt⟩ := h; exact hS.trans (hbt.mono hS.size)) ?_
                  intro v W24010 h hS2
                  obtain ⟨A4, c4, L4, rfl, h1, h2, hbt⟩ := h
                  clear hS2
                  simp only [Act.put, List.setIfInBounds_toArray, List.set_cons_zero, List.set_cons_succ]
                  have HO4 : Hid (TwO W24010 W24009.heap.size (.slice A4 p.m c4) p.m L4) := Lib.hid h1
                  have HI4 := Lib.hid h2
                  clear h1 h2 HK9 HKK
                  have K4n := Lib.hid (K4.out.below hbt)
                  clear K4
                  have K4 := K4n
                  clear K4n
                  have HXn := Lib.hid (HX.out.trans (hbt.mono HX.out.size))
                  clear HX
                  have HX := HXn
                  clear HXn
                  clear hbt hS
                  have hS := HX.out
                  refine takeY (i := 7) (some 119) (v := .tuple #[.agg (pdC (withT (rdP q F9) A4 p.m c4)), .int .i64 0]) rfl rfl (by kernel_rfl) (by kernel_rfl) (by kernel_rfl) (fun _ _ _ h => h) (by rfl) (fun w' hS => by go_simp) hS ?_
                  simp only [Act.put, List.setIfInBounds_toArray, List.set_cons_zero, List.set_cons_succ]
                  refine takeY (i := 8) (some 127) (v := .agg (pdC (withT (rdP q F9) A4 p.m c4))) rfl rfl (by kernel_rfl) (by kernel_rfl) (by kernel_rfl) (fun _ _ _ h => h) (by rfl) (fun w' hS => by go_simp) hS ?_
                  simp only [Act.put, List.setIfInBounds_toArray, List.set_cons_zero, List.set_cons_succ]
                  refine takeY (i := 9) (some 128) (v := .int .i64 0) rfl rfl (by kernel_rfl) (by kernel_rfl) (by kernel_rfl) (fun _ _ _ h => h) (by rfl) (fun w' hS => by go_simp) hS ?_
                  simp only [Act.put, List.setIfInBounds_toArray, List.set_cons_zero, List.set_cons_succ]
                  refine takeSt (i := 11) 46 (.tmp 20) (.tmp 127) M24008 0 (.agg (pdC (withT (rdP q F9) A4 p.m c4))) (pdC (withT (rdP q F9) A4 p.m c4)) (pdC (withT (rdP q F9) A4 p.m c4)) rfl rfl (by kernel_rfl) (by rfl) rfl rfl rfl rfl info_pdP (pdC_one _) K4.out (Nat.le_of_ble_eq_true rfl) (pd_over _ _) ?_
                  intro W24011 q1
                  have hX9 := Lib.hid (HX.out.trans (q1.2.1 _ le_M24008))
                  refine ⟨hX9.out, ?_⟩
                  simp only [Act.put, List.setIfInBounds_toArray, List.set_cons_zero, List.set_cons_succ]
                  have K4x : Hid (Blk 46 W24011 M24008 (pdC (withT (rdP q F9) A4 p.m c4))) := Lib.hid q1.1
                  have HO4x := Lib.hid (OwnT.farT HO4.out K4.out q1)
                  clear q1 hS
                  have hS := hX9.out
                  refine takeY (i := 12) (some 21) (v := .int .i64 0) rfl rfl (by kernel_rfl) (by kernel_rfl) (by kernel_rfl) (fun _ _ _ h => h) (by rfl) (fun w' hS => by go_simp) hS ?_
                  simp only [Act.put, List.setIfInBounds_toArray, List.set_cons_zero, List.set_cons_succ]
                  clear hS
                  refine wpAnyH_done (by kernel_rfl) ?_ _
                  go_wp2_with fail
                  go_meet
                  case rel => exact ⟨M24008, A4, c4, L4, _, rfl, rfl, K4x, HO4x, HI4, hX9⟩
              · skip
                intro W24007 k1 b1 s1
                refine ⟨hS.trans (b1.mono hS.size), ?_⟩
                simp only [Act.put, List.setIfInBounds_toArray, List.set_cons_zero, List.set_cons_succ]
                have K4 : Hid (BlO 46 W24007 M24006 (pdC pd0)) := Lib.hid k1
                clear k1
                have HTn := Lib.hid (HT.out.below b1)
                clear HT
                have HT := HTn
                clear HTn
                have KQn := Lib.hid (KQ.out.below b1)
                clear KQ
                have KQ := KQn
                clear KQn
                have HXn := Lib.hid (HX.out.trans (b1.mono HX.out.size))
                clear HX
                have HX := HXn
                clear HXn
                clear b1 hS
                have hS := HX.out
                have HTS : Hid (RdR W24007 A7 ms 2 (kR K7)) := Lib.hid (by obtain ⟨A8, c8, e8, _, _, _, h8⟩ := RwK.shape HT.out.1; injection e8 with e8 _ _; rw [e8]; exact h8)
                refine takeKq (i := 5) (some 125) (.tmp 122) (.tmp 124) rfl rfl (by kernel_rfl) (by rfl) rfl rfl (RwK.one KQ.out le_M24004) rfl HT7.out (HTS.out) (by omega) HX.out.size ?_
                intro v9 W24008 hr9 hg9 hb9 hv9
                have hX9 := HX.out.trans hb9
                refine ⟨hX9, ?_⟩
                simp only [Act.put, List.setIfInBounds_toArray, List.set_cons_zero, List.set_cons_succ]
                obtain ⟨A9, c9, rfl, hrk, hke, hfk, hfz⟩ := mixB HSG.out HAL.out hr9 (fun j hj => hv9 _ (HT.out.2 j hj)) ((HKEY.out.below HB.out).below hX9) rfl HSN.out
                have HK9 := Lib.hid hrk
                have HKK := Lib.hid (And.intro hke (And.intro hfk hfz))
                have K4n : Hid (BlO 46 W24008 M24006 (pdC pd0)) := Lib.hid (blk_grownK K4.out (RwK.one KQ.out le_M24004) hg9)
                clear K4
                have K4 := K4n
                clear K4n
                have HX9 := Lib.hid hX9
                clear HX hS hX9 hr9 hg9 hb9 hv9 hrk hke hfk hfz HT KQ HAL HT7
                have HX := HX9
                clear HX9
                have hS := HX.out
                refine takeCE (i := 6) (some 126) 22 #[.slice (some ⟨g8, 0, none⟩) N9 cu, .slice A9 (1 + ms) c9] (R := fun v w' => ∃ A4 c4 L4, v = .tuple #[.agg (pdC (withT (rdP q F9) A4 p.m c4)), .int .i64 0] ∧ OwnT w' W24008.heap.size (.slice A4 p.m c4) p.m L4 ∧ IsItZ (tlZ q F9) L4 p.m ∧ Below W24008.heap.size W24008 w') rfl rfl (by kernel_rfl) (by rfl) (by go_simp) ((bk_open HSL.out HID.out HNS.out HBK.out (some ⟨g8, 0, none⟩) cu W24008 (Own8.rd (HY8.out.below HX.out)) (fun e => by cases e) HCU.out.1 HCU.out.2 (RT.out.below HX.out RT.out.lt) A9 (1 + ms) c9 (catT (fun _ => ⟨(id : Int), A, sn, sc, k⟩) 1 K7) HK9.out HKK.out.1 _ HKK.out.2.1 (by rw [HKK.out.2.2]) (by rw [HKK.out.2.2])).mono fun e w' h => by obtain ⟨A4, c4, L4, rfl, h1, h2, _, _, _, h3⟩ := h; exact ⟨_, rfl, A4, c4, L4, rfl, h1, h2, h3⟩) (fun v w' h => by obtain ⟨A4, c4, L4, _, _, _, hbt⟩ := h; exact hS.trans (hbt.mono hS.size)) ?_
                intro v W24009 h hS2
                obtain ⟨A4, c4, L4, rfl, h1, h2, hbt⟩ := h
                clear hS2
                simp only [Act.put, List.setIfInBounds_toArray, List.set_cons_zero, List.set_cons_succ]
                have HO4 : Hid (TwO W24009 W24008.heap.size (.slice A4 p.m c4) p.m L4) := Lib.hid h1
                have HI4 := Lib.hid h2
                clear h1 h2 HK9 HKK
                have K4n := Lib.hid (K4.out.below hbt)
                clear K4
                have K4 := K4n
                clear K4n
                have HXn := Lib.hid (HX.out.trans (hbt.mono HX.out.size))
                clear HX
                have HX := HXn
                clear HXn
                clear hbt hS
                have hS := HX.out
                refine takeY (i := 7) (some 119) (v := .tuple #[.agg (pdC (withT (rdP q F9) A4 p.m c4)), .int .i64 0]) rfl rfl (by kernel_rfl) (by kernel_rfl) (by kernel_rfl) (fun _ _ _ h => h) (by rfl) (fun w' hS => by go_simp) hS ?_
                simp only [Act.put, List.setIfInBounds_toArray, List.set_cons_zero, List.set_cons_succ]
                refine takeY (i := 8) (some 127) (v := .agg (pdC (withT (rdP q F9) A4 p.m c4))) rfl rfl (by kernel_rfl) (by kernel_rfl) (by kernel_rfl) (fun _ _ _ h => h) (by rfl) (fun w' hS => by go_simp) hS ?_
                simp only [Act.put, List.setIfInBounds_toArray, List.set_cons_zero, List.set_cons_succ]
                refine takeY (i := 9) (some 128) (v := .int .i64 0) rfl rfl (by kernel_rfl) (by kernel_rfl) (by kernel_rfl) (fun _ _ _ h => h) (by rfl) (fun w' hS => by go_simp) hS ?_
                simp only [Act.put, List.setIfInBounds_toArray, List.set_cons_zero, List.set_cons_succ]
                refine takeSt (i := 11) 46 (.tmp 20) (.tmp 127) M24006 0 (.agg (pdC (withT (rdP q F9) A4 p.m c4))) (pdC (withT (rdP q F9) A4 p.m c4)) (pdC (withT (rdP q F9) A4 p.m c4)) rfl rfl (by kernel_rfl) (by rfl) rfl rfl rfl rfl info_pdP (pdC_one _) K4.out (Nat.le_of_ble_eq_true rfl) (pd_over _ _) ?_
                intro W24010 q1
                have hX9 := Lib.hid (HX.out.trans (q1.2.1 _ le_M24006))
                refine ⟨hX9.out, ?_⟩
                simp only [Act.put, List.setIfInBounds_toArray, List.set_cons_zero, List.set_cons_succ]
                have K4x : Hid (Blk 46 W24010 M24006 (pdC (withT (rdP q F9) A4 p.m c4))) := Lib.hid q1.1
                have HO4x := Lib.hid (OwnT.farT HO4.out K4.out q1)
                clear q1 hS
                have hS := hX9.out
                refine takeY (i := 12) (some 21) (v := .int .i64 0) rfl rfl (by kernel_rfl) (by kernel_rfl) (by kernel_rfl) (fun _ _ _ h => h) (by rfl) (fun w' hS => by go_simp) hS ?_
                simp only [Act.put, List.setIfInBounds_toArray, List.set_cons_zero, List.set_cons_succ]
                clear hS
                refine wpAnyH_done (by kernel_rfl) ?_ _
                go_wp2_with fail
                go_meet
                case rel => exact ⟨M24006, A4, c4, L4, _, rfl, rfl, K4x, HO4x, HI4, hX9⟩
            · skip
              intro W24005 k1 b1 s1
              refine ⟨hS.trans (b1.mono hS.size), ?_⟩
              simp only [Act.put, List.setIfInBounds_toArray, List.set_cons_zero, List.set_cons_succ]
              have K4 : Hid (BlO 46 W24005 M24004 (pdC pd0)) := Lib.hid k1
              clear k1
              have HTn := Lib.hid (HT.out.below b1)
              clear HT
              have HT := HTn
              clear HTn
              have HXn := Lib.hid (HX.out.trans (b1.mono HX.out.size))
              clear HX
              have HX := HXn
              clear HXn
              clear b1 hS
              have hS := HX.out
              obtain ⟨M24006, hM24006⟩ : ∃ N, W24005.heap.size = N := ⟨_, rfl⟩
              have HM24006 := Lib.hid hM24006
              have le_M24006 : wq24.heap.size ≤ M24006 := by rw [← hM24006]; exact HX.out.size
              clear hM24006
              refine takeBsn (i := 2) (some 122) 1 45 (kC ⟨(id : Int), A, sn, sc, k⟩) rfl rfl (by kernel_rfl) (by rfl) (bs_key _ _ _ rfl ⟨(id : Int), A, sn, sc, k⟩ rfl) M24006 HM24006.out ?_
              intro W24007 k1 b1 s1
              refine ⟨hS.trans (b1.mono hS.size), ?_⟩
              simp only [Act.put, List.setIfInBounds_toArray, List.set_cons_zero, List.set_cons_succ]
              have KQ : Hid (BlO 45 W24007 M24006 (kC ⟨(id : Int), A, sn, sc, k⟩)) := Lib.hid k1
              clear k1
              have HTn := Lib.hid (HT.out.below b1)
              clear HT
              have HT := HTn
              clear HTn
              have K4n := Lib.hid (K4.out.below b1)
              clear K4
              have K4 := K4n
              clear K4n
              have HXn := Lib.hid (HX.out.trans (b1.mono HX.out.size))
              clear HX
              have HX := HXn
              clear HXn
              clear b1 hS
              have hS := HX.out
              have HTS : Hid (RdR W24007 A7 ms 2 (kR K7)) := Lib.hid (by obtain ⟨A8, c8, e8, _, _, _, h8⟩ := RwK.shape HT.out.1; injection e8 with e8 _ _; rw [e8]; exact h8)
              refine takeKq (i := 5) (some 125) (.tmp 122) (.tmp 124) rfl rfl (by kernel_rfl) (by rfl) rfl rfl (RwK.one KQ.out le_M24006) rfl HT7.out (HTS.out) (by omega) HX.out.size ?_
              intro v9 W24008 hr9 hg9 hb9 hv9
              have hX9 := HX.out.trans hb9
              refine ⟨hX9, ?_⟩
              simp only [Act.put, List.setIfInBounds_toArray, List.set_cons_zero, List.set_cons_succ]
              obtain ⟨A9, c9, rfl, hrk, hke, hfk, hfz⟩ := mixB HSG.out HAL.out hr9 (fun j hj => hv9 _ (HT.out.2 j hj)) ((HKEY.out.below HB.out).below hX9) rfl HSN.out
              have HK9 := Lib.hid hrk
              have HKK := Lib.hid (And.intro hke (And.intro hfk hfz))
              have K4n : Hid (BlO 46 W24008 M24004 (pdC pd0)) := Lib.hid (blk_grownK K4.out (RwK.one KQ.out le_M24006) hg9)
              clear K4
              have K4 := K4n
              clear K4n
              have HX9 := Lib.hid hX9
              clear HX hS hX9 hr9 hg9 hb9 hv9 hrk hke hfk hfz HT KQ HAL HT7
              have HX := HX9
              clear HX9
              have hS := HX.out
              refine takeCE (i := 6) (some 126) 22 #[.slice (some ⟨g8, 0, none⟩) N9 cu, .slice A9 (1 + ms) c9] (R := fun v w' => ∃ A4 c4 L4, v = .tuple #[.agg (pdC (withT (rdP q F9) A4 p.m c4)), .int .i64 0] ∧ OwnT w' W24008.heap.size (.slice A4 p.m c4) p.m L4 ∧ IsItZ (tlZ q F9) L4 p.m ∧ Below W24008.heap.size W24008 w') rfl rfl (by kernel_rfl) (by rfl) (by go_simp) ((bk_open HSL.out HID.out HNS.out HBK.out (some ⟨g8, 0, none⟩) cu W24008 (Own8.rd (HY8.out.below HX.out)) (fun e => by cases e) HCU.out.1 HCU.out.2 (RT.out.below HX.out RT.out.lt) A9 (1 + ms) c9 (catT (fun _ => ⟨(id : Int), A, sn, sc, k⟩) 1 K7) HK9.out HKK.out.1 _ HKK.out.2.1 (by rw [HKK.out.2.2]) (by rw [HKK.out.2.2])).mono fun e w' h => by obtain ⟨A4, c4, L4, rfl, h1, h2, _, _, _, h3⟩ := h; exact ⟨_, rfl, A4, c4, L4, rfl, h1, h2, h3⟩) (fun v w' h => by obtain ⟨A4, c4, L4, _, _, _, hbt⟩ := h; exact hS.trans (hbt.mono hS.size)) ?_
              intro v W24009 h hS2
              obtain ⟨A4, c4, L4, rfl, h1, h2, hbt⟩ := h
              clear hS2
              simp only [Act.put, List.setIfInBounds_toArray, List.set_cons_zero, List.set_cons_succ]
              have HO4 : Hid (TwO W24009 W24008.heap.size (.slice A4 p.m c4) p.m L4) := Lib.hid h1
              have HI4 := Lib.hid h2
              clear h1 h2 HK9 HKK
              have K4n := Lib.hid (K4.out.below hbt)
              clear K4
              have K4 := K4n
              clear K4n
              have HXn := Lib.hid (HX.out.trans (hbt.mono HX.out.size))
              clear HX
              have HX := HXn
              clear HXn
              clear hbt hS
              have hS := HX.out
              refine takeY (i := 7) (some 119) (v := .tuple #[.agg (pdC (withT (rdP q F9) A4 p.m c4)), .int .i64 0]) rfl rfl (by kernel_rfl) (by kernel_rfl) (by kernel_rfl) (fun _ _ _ h => h) (by rfl) (fun w' hS => by go_simp) hS ?_
              simp only [Act.put, List.setIfInBounds_toArray, List.set_cons_zero, List.set_cons_succ]
              refine takeY (i := 8) (some 127) (v := .agg (pdC (withT (rdP q F9) A4 p.m c4))) rfl rfl (by kernel_rfl) (by kernel_rfl) (by kernel_rfl) (fun _ _ _ h => h) (by rfl) (fun w' hS => by go_simp) hS ?_
              simp only [Act.put, List.setIfInBounds_toArray, List.set_cons_zero, List.set_cons_succ]
              refine takeY (i := 9) (some 128) (v := .int .i64 0) rfl rfl (by kernel_rfl) (by kernel_rfl) (by kernel_rfl) (fun _ _ _ h => h) (by rfl) (fun w' hS => by go_simp) hS ?_
              simp only [Act.put, List.setIfInBounds_toArray, List.set_cons_zero, List.set_cons_succ]
              refine takeSt (i := 11) 46 (.tmp 20) (.tmp 127) M24004 0 (.agg (pdC (withT (rdP q F9) A4 p.m c4))) (pdC (withT (rdP q F9) A4 p.m c4)) (pdC (withT (rdP q F9) A4 p.m c4)) rfl rfl (by kernel_rfl) (by rfl) rfl rfl rfl rfl info_pdP (pdC_one _) K4.out (Nat.le_of_ble_eq_true rfl) (pd_over _ _) ?_
              intro W24010 q1
              have hX9 := Lib.hid (HX.out.trans (q1.2.1 _ le_M24004))
              refine ⟨hX9.out, ?_⟩
              simp only [Act.put, List.setIfInBounds_toArray, List.set_cons_zero, List.set_cons_succ]
              have K4x : Hid (Blk 46 W24010 M24004 (pdC (withT (rdP q F9) A4 p.m c4))) := Lib.hid q1.1
              have HO4x := Lib.hid (OwnT.farT HO4.out K4.out q1)
              clear q1 hS
              have hS := hX9.out
              refine takeY (i := 12) (some 21) (v := .int .i64 0) rfl rfl (by kernel_rfl) (by kernel_rfl) (by kernel_rfl) (fun _ _ _ h => h) (by rfl) (fun w' hS => by go_simp) hS ?_
              simp only [Act.put, List.setIfInBounds_toArray, List.set_cons_zero, List.set_cons_succ]
              clear hS
              refine wpAnyH_done (by kernel_rfl) ?_ _
              go_wp2_with fail
              go_meet
              case rel => exact ⟨M24004, A4, c4, L4, _, rfl, rfl, K4x, HO4x, HI4, hX9⟩
          · skip
            intro W24003 k1 b1 s1
            refine ⟨hS.trans (b1.mono hS.size), ?_⟩
            simp only [Act.put, List.setIfInBounds_toArray, List.set_cons_zero, List.set_cons_succ]
            have K4 : Hid (BlO 46 W24003 M24002 (pdC pd0)) := Lib.hid k1
            clear k1
            have HXn := Lib.hid (HX.out.trans (b1.mono HX.out.size))
            clear HX
            have HX := HXn
            clear HXn
            clear b1 hS
            have hS := HX.out
            obtain ⟨M24004, hM24004⟩ : ∃ N, W24003.heap.size = N := ⟨_, rfl⟩
            have HM24004 := Lib.hid hM24004
            have le_M24004 : wq24.heap.size ≤ M24004 := by rw [← hM24004]; exact HX.out.size
            clear hM24004
            refine wpAnyH_ready (show Region.ready _ _ _ = [2, 4] from by kernel_rfl) (by simp) (consBsn (i := 2) (some 122) 1 45 (kC ⟨(id : Int), A, sn, sc, k⟩) rfl rfl (by rfl) (bs_key _ _ _ rfl ⟨(id : Int), A, sn, sc, k⟩ rfl) M24004 HM24004.out ?_ (consCE (i := 4) (some 124) 17 #[.slice AS ms cS] (R := fun v w' => ∃ K7, OwnK w' W24003.heap.size v ms K7 ∧ (∀ j, j < ms → Alike (KS j) (K7 j)) ∧ Below W24003.heap.size W24003 w') rfl rfl (by rfl) (by go_simp) ((twinK_any AS ms cS KS W24003 (HRS.out.below HX.out) (by omega)).mono fun e w' h => h.elim fun v h => h.elim fun K7 h => ⟨v, h.1, K7, h.2⟩) (fun v w' h => by obtain ⟨K7, h1, h2, hbt⟩ := h; exact hS.trans (hbt.mono hS.size)) ?_ AllReadyH.nil))
            · skip
              intro W24005 k1 b1 s1
              refine ⟨hS.trans (b1.mono hS.size), ?_⟩
              simp only [Act.put, List.setIfInBounds_toArray, List.set_cons_zero, List.set_cons_succ]
              have KQ : Hid (BlO 45 W24005 M24004 (kC ⟨(id : Int), A, sn, sc, k⟩)) := Lib.hid k1
              clear k1
              have K4n := Lib.hid (K4.out.below b1)
              clear K4
              have K4 := K4n
              clear K4n
              have HXn := Lib.hid (HX.out.trans (b1.mono HX.out.size))
              clear HX
              have HX := HXn
              clear HXn
              clear b1 hS
              have hS := HX.out
              refine takeCE (i := 4) (some 124) 17 #[.slice AS ms cS] (R := fun v w' => ∃ K7, OwnK w' W24005.heap.size v ms K7 ∧ (∀ j, j < ms → Alike (KS j) (K7 j)) ∧ Below W24005.heap.size W24005 w') rfl rfl (by kernel_rfl) (by rfl) (by go_simp) ((twinK_any AS ms cS KS W24005 (HRS.out.below HX.out) (by omega)).mono fun e w' h => h.elim fun v h => h.elim fun K7 h => ⟨v, h.1, K7, h.2⟩) (fun v w' h => by obtain ⟨K7, h1, h2, hbt⟩ := h; exact hS.trans (hbt.mono hS.size)) ?_
              intro v W24006 h hS2
              obtain ⟨K7, h1, h2, hbt⟩ := h
              obtain ⟨A7, c7, rfl, _, _, h7, h8⟩ := h1.shape
              clear hS2
              simp only [Act.put, List.setIfInBounds_toArray, List.set_cons_zero, List.set_cons_succ]
              have HT : Hid (OwKO W24006 wq24.heap.size (.slice A7 ms c7) ms K7) := Lib.hid (OwnK.le h1 HX.out.size)
              have HAL := Lib.hid h2
              have HT7 := Lib.hid h7
              clear h1 h2 h7 h8
              have K4n := Lib.hid (K4.out.below hbt)
              clear K4
              have K4 := K4n
              clear K4n
              have KQn := Lib.hid (KQ.out.below hbt)
              clear KQ
              have KQ := KQn
              clear KQn
              have HXn := Lib.hid (HX.out.trans (hbt.mono HX.out.size))
              clear HX
              have HX := HXn
              clear HXn
              clear hbt hS
              have hS := HX.out
              have HTS : Hid (RdR W24006 A7 ms 2 (kR K7)) := Lib.hid (by obtain ⟨A8, c8, e8, _, _, _, h8⟩ := RwK.shape HT.out.1; injection e8 with e8 _ _; rw [e8]; exact h8)
              refine takeKq (i := 5) (some 125) (.tmp 122) (.tmp 124) rfl rfl (by kernel_rfl) (by rfl) rfl rfl (RwK.one KQ.out le_M24004) rfl HT7.out (HTS.out) (by omega) HX.out.size ?_
              intro v9 W24007 hr9 hg9 hb9 hv9
              have hX9 := HX.out.trans hb9
              refine ⟨hX9, ?_⟩
              simp only [Act.put, List.setIfInBounds_toArray, List.set_cons_zero, List.set_cons_succ]
              obtain ⟨A9, c9, rfl, hrk, hke, hfk, hfz⟩ := mixB HSG.out HAL.out hr9 (fun j hj => hv9 _ (HT.out.2 j hj)) ((HKEY.out.below HB.out).below hX9) rfl HSN.out
              have HK9 := Lib.hid hrk
              have HKK := Lib.hid (And.intro hke (And.intro hfk hfz))
              have K4n : Hid (BlO 46 W24007 M24002 (pdC pd0)) := Lib.hid (blk_grownK K4.out (RwK.one KQ.out le_M24004) hg9)
              clear K4
              have K4 := K4n
              clear K4n
              have HX9 := Lib.hid hX9
              clear HX hS hX9 hr9 hg9 hb9 hv9 hrk hke hfk hfz HT KQ HAL HT7
              have HX := HX9
              clear HX9
              have hS := HX.out
              refine takeCE (i := 6) (some 126) 22 #[.slice (some ⟨g8, 0, none⟩) N9 cu, .slice A9 (1 + ms) c9] (R := fun v w' => ∃ A4 c4 L4, v = .tuple #[.agg (pdC (withT (rdP q F9) A4 p.m c4)), .int .i64 0] ∧ OwnT w' W24007.heap.size (.slice A4 p.m c4) p.m L4 ∧ IsItZ (tlZ q F9) L4 p.m ∧ Below W24007.heap.size W24007 w') rfl rfl (by kernel_rfl) (by rfl) (by go_simp) ((bk_open HSL.out HID.out HNS.out HBK.out (some ⟨g8, 0, none⟩) cu W24007 (Own8.rd (HY8.out.below HX.out)) (fun e => by cases e) HCU.out.1 HCU.out.2 (RT.out.below HX.out RT.out.lt) A9 (1 + ms) c9 (catT (fun _ => ⟨(id : Int), A, sn, sc, k⟩) 1 K7) HK9.out HKK.out.1 _ HKK.out.2.1 (by rw [HKK.out.2.2]) (by rw [HKK.out.2.2])).mono fun e w' h => by obtain ⟨A4, c4, L4, rfl, h1, h2, _, _, _, h3⟩ := h; exact ⟨_, rfl, A4, c4, L4, rfl, h1, h2, h3⟩) (fun v w' h => by obtain ⟨A4, c4, L4, _, _, _, hbt⟩ := h; exact hS.trans (hbt.mono hS.size)) ?_
              intro v W24008 h hS2
              obtain ⟨A4, c4, L4, rfl, h1, h2, hbt⟩ := h
              clear hS2
              simp only [Act.put, List.setIfInBounds_toArray, List.set_cons_zero, List.set_cons_succ]
              have HO4 : Hid (TwO W24008 W24007.heap.size (.slice A4 p.m c4) p.m L4) := Lib.hid h1
              have HI4 := Lib.hid h2
              clear h1 h2 HK9 HKK
              have K4n := Lib.hid (K4.out.below hbt)
              clear K4
              have K4 := K4n
              clear K4n
              have HXn := Lib.hid (HX.out.trans (hbt.mono HX.out.size))
              clear HX
              have HX := HXn
              clear HXn
              clear hbt hS
              have hS := HX.out
              refine takeY (i := 7) (some 119) (v := .tuple #[.agg (pdC (withT (rdP q F9) A4 p.m c4)), .int .i64 0]) rfl rfl (by kernel_rfl) (by kernel_rfl) (by kernel_rfl) (fun _ _ _ h => h) (by rfl) (fun w' hS => by go_simp) hS ?_
              simp only [Act.put, List.setIfInBounds_toArray, List.set_cons_zero, List.set_cons_succ]
              refine takeY (i := 8) (some 127) (v := .agg (pdC (withT (rdP q F9) A4 p.m c4))) rfl rfl (by kernel_rfl) (by kernel_rfl) (by kernel_rfl) (fun _ _ _ h => h) (by rfl) (fun w' hS => by go_simp) hS ?_
              simp only [Act.put, List.setIfInBounds_toArray, List.set_cons_zero, List.set_cons_succ]
              refine takeY (i := 9) (some 128) (v := .int .i64 0) rfl rfl (by kernel_rfl) (by kernel_rfl) (by kernel_rfl) (fun _ _ _ h => h) (by rfl) (fun w' hS => by go_simp) hS ?_
              simp only [Act.put, List.setIfInBounds_toArray, List.set_cons_zero, List.set_cons_succ]
              refine takeSt (i := 11) 46 (.tmp 20) (.tmp 127) M24002 0 (.agg (pdC (withT (rdP q F9) A4 p.m c4))) (pdC (withT (rdP q F9) A4 p.m c4)) (pdC (withT (rdP q F9) A4 p.m c4)) rfl rfl (by kernel_rfl) (by rfl) rfl rfl rfl rfl info_pdP (pdC_one _) K4.out (Nat.le_of_ble_eq_true rfl) (pd_over _ _) ?_
              intro W24009 q1
              have hX9 := Lib.hid (HX.out.trans (q1.2.1 _ le_M24002))
              refine ⟨hX9.out, ?_⟩
              simp only [Act.put, List.setIfInBounds_toArray, List.set_cons_zero, List.set_cons_succ]
              have K4x : Hid (Blk 46 W24009 M24002 (pdC (withT (rdP q F9) A4 p.m c4))) := Lib.hid q1.1
              have HO4x := Lib.hid (OwnT.farT HO4.out K4.out q1)
              clear q1 hS
              have hS := hX9.out
              refine takeY (i := 12) (some 21) (v := .int .i64 0) rfl rfl (by kernel_rfl) (by kernel_rfl) (by kernel_rfl) (fun _ _ _ h => h) (by rfl) (fun w' hS => by go_simp) hS ?_
              simp only [Act.put, List.setIfInBounds_toArray, List.set_cons_zero, List.set_cons_succ]
              clear hS
              refine wpAnyH_done (by kernel_rfl) ?_ _
              go_wp2_with fail
              go_meet
              case rel => exact ⟨M24002, A4, c4, L4, _, rfl, rfl, K4x, HO4x, HI4, hX9⟩
            · skip
              intro v W24005 h hS2
              obtain ⟨K7, h1, h2, hbt⟩ := h
              obtain ⟨A7, c7, rfl, _, _, h7, h8⟩ := h1.shape
              clear hS2
              simp only [Act.put, List.setIfInBounds_toArray, List.set_cons_zero, List.set_cons_succ]
              have HT : Hid (OwKO W24005 wq24.heap.size (.slice A7 ms c7) ms K7) := Lib.hid (OwnK.le h1 HX.out.size)
              have HAL := Lib.hid h2
              have HT7 := Lib.hid h7
              clear h1 h2 h7 h8
              have K4n := Lib.hid (K4.out.below hbt)
              clear K4
              have K4 := K4n
              clear K4n
              have HXn := Lib.hid (HX.out.trans (hbt.mono HX.out.size))
              clear HX
              have HX := HXn
              clear HXn
              clear hbt hS
              have hS := HX.out
              obtain ⟨M24006, hM24006⟩ : ∃ N, W24005.heap.size = N := ⟨_, rfl⟩
              have HM24006 := Lib.hid hM24006
              have le_M24006 : wq24.heap.size ≤ M24006 := by rw [← hM24006]; exact HX.out.size
              clear hM24006
              refine takeBsn (i := 2) (some 122) 1 45 (kC ⟨(id : Int), A, sn, sc, k⟩) rfl rfl (by kernel_rfl) (by rfl) (bs_key _ _ _ rfl ⟨(id : Int), A, sn, sc, k⟩ rfl) M24006 HM24006.out ?_
              intro W24007 k1 b1 s1
              refine ⟨hS.trans (b1.mono hS.size), ?_⟩
              simp only [Act.put, List.setIfInBounds_toArray, List.set_cons_zero, List.set_cons_succ]
              have KQ : Hid (BlO 45 W24007 M24006 (kC ⟨(id : Int), A, sn, sc, k⟩)) := Lib.hid k1
              clear k1
              have K4n := Lib.hid (K4.out.below b1)
              clear K4
              have K4 := K4n
              clear K4n
              have HTn := Lib.hid (HT.out.below b1)
              clear HT
              have HT := HTn
              clear HTn
              have HXn := Lib.hid (HX.out.trans (b1.mono HX.out.size))
              clear HX
              have HX := HXn
              clear HXn
              clear b1 hS
              have hS := HX.out
              have HTS : Hid (RdR W24007 A7 ms 2 (kR K7)) := Lib.hid (by obtain ⟨A8, c8, e8, _, _, _, h8⟩ := RwK.shape HT.out.1; injection e8 with e8 _ _; rw [e8]; exact h8)
              refine takeKq (i := 5) (some 125) (.tmp 122) (.tmp 124) rfl rfl (by kernel_rfl) (by rfl) rfl rfl (RwK.one KQ.out le_M24006) rfl HT7.out (HTS.out) (by omega) HX.out.size ?_
              intro v9 W24008 hr9 hg9 hb9 hv9
              have hX9 := HX.out.trans hb9
              refine ⟨hX9, ?_⟩
              simp only [Act.put, List.setIfInBounds_toArray, List.set_cons_zero, List.set_cons_succ]
              obtain ⟨A9, c9, rfl, hrk, hke, hfk, hfz⟩ := mixB HSG.out HAL.out hr9 (fun j hj => hv9 _ (HT.out.2 j hj)) ((HKEY.out.below HB.out).below hX9) rfl HSN.out
              have HK9 := Lib.hid hrk
              have HKK := Lib.hid (And.intro hke (And.intro hfk hfz))
              have K4n : Hid (BlO 46 W24008 M24002 (pdC pd0)) := Lib.hid (blk_grownK K4.out (RwK.one KQ.out le_M24006) hg9)
              clear K4
              have K4 := K4n
              clear K4n
              have HX9 := Lib.hid hX9
              clear HX hS hX9 hr9 hg9 hb9 hv9 hrk hke hfk hfz HT KQ HAL HT7
              have HX := HX9
              clear HX9
              have hS := HX.out
              refine takeCE (i := 6) (some 126) 22 #[.slice (some ⟨g8, 0, none⟩) N9 cu, .slice A9 (1 + ms) c9] (R := fun v w' => ∃ A4 c4 L4, v = .tuple #[.agg (pdC (withT (rdP q F9) A4 p.m c4)), .int .i64 0] ∧ OwnT w' W24008.heap.size (.slice A4 p.m c4) p.m L4 ∧ IsItZ (tlZ q F9) L4 p.m ∧ Below W24008.heap.size W24008 w') rfl rfl (by kernel_rfl) (by rfl) (by go_simp) ((bk_open HSL.out HID.out HNS.out HBK.out (some ⟨g8, 0, none⟩) cu W24008 (Own8.rd (HY8.out.below HX.out)) (fun e => by cases e) HCU.out.1 HCU.out.2 (RT.out.below HX.out RT.out.lt) A9 (1 + ms) c9 (catT (fun _ => ⟨(id : Int), A, sn, sc, k⟩) 1 K7) HK9.out HKK.out.1 _ HKK.out.2.1 (by rw [HKK.out.2.2]) (by rw [HKK.out.2.2])).mono fun e w' h => by obtain ⟨A4, c4, L4, rfl, h1, h2, _, _, _, h3⟩ := h; exact ⟨_, rfl, A4, c4, L4, rfl, h1, h2, h3⟩) (fun v w' h => by obtain ⟨A4, c4, L4, _, _, _, hbt⟩ := h; exact hS.trans (hbt.mono hS.size)) ?_
              intro v W24009 h hS2
              obtain ⟨A4, c4, L4, rfl, h1, h2, hbt⟩ := h
              clear hS2
              simp only [Act.put, List.setIfInBounds_toArray, List.set_cons_zero, List.set_cons_succ]
              have HO4 : Hid (TwO W24009 W24008.heap.size (.slice A4 p.m c4) p.m L4) := Lib.hid h1
              have HI4 := Lib.hid h2
              clear h1 h2 HK9 HKK
              have K4n := Lib.hid (K4.out.below hbt)
              clear K4
              have K4 := K4n
              clear K4n
              have HXn := Lib.hid (HX.out.trans (hbt.mono HX.out.size))
              clear HX
              have HX := HXn
              clear HXn
              clear hbt hS
              have hS := HX.out
              refine takeY (i := 7) (some 119) (v := .tuple #[.agg (pdC (withT (rdP q F9) A4 p.m c4)), .int .i64 0]) rfl rfl (by kernel_rfl) (by kernel_rfl) (by kernel_rfl) (fun _ _ _ h => h) (by rfl) (fun w' hS => by go_simp) hS ?_
              simp only [Act.put, List.setIfInBounds_toArray, List.set_cons_zero, List.set_cons_succ]
              refine takeY (i := 8) (some 127) (v := .agg (pdC (withT (rdP q F9) A4 p.m c4))) rfl rfl (by kernel_rfl) (by kernel_rfl) (by kernel_rfl) (fun _ _ _ h => h) (by rfl) (fun w' hS => by go_simp) hS ?_
              simp only [Act.put, List.setIfInBounds_toArray, List.set_cons_zero, List.set_cons_succ]
              refine takeY (i := 9) (some 128) (v := .int .i64 0) rfl rfl (by kernel_rfl) (by kernel_rfl) (by kernel_rfl) (fun _ _ _ h => h) (by rfl) (fun w' hS => by go_simp) hS ?_
              simp only [Act.put, List.setIfInBounds_toArray, List.set_cons_zero, List.set_cons_succ]
              refine takeSt (i := 11) 46 (.tmp 20) (.tmp 127) M24002 0 (.agg (pdC (withT (rdP q F9) A4 p.m c4))) (pdC (withT (rdP q F9) A4 p.m c4)) (pdC (withT (rdP q F9) A4 p.m c4)) rfl rfl (by kernel_rfl) (by rfl) rfl rfl rfl rfl info_pdP (pdC_one _) K4.out (Nat.le_of_ble_eq_true rfl) (pd_over _ _) ?_
              intro W24010 q1
              have hX9 := Lib.hid (HX.out.trans (q1.2.1 _ le_M24002))
              refine ⟨hX9.out, ?_⟩
              simp only [Act.put, List.setIfInBounds_toArray, List.set_cons_zero, List.set_cons_succ]
              have K4x : Hid (Blk 46 W24010 M24002 (pdC (withT (rdP q F9) A4 p.m c4))) := Lib.hid q1.1
              have HO4x := Lib.hid (OwnT.farT HO4.out K4.out q1)
              clear q1 hS
              have hS := hX9.out
              refine takeY (i := 12) (some 21) (v := .int .i64 0) rfl rfl (by kernel_rfl) (by kernel_rfl) (by kernel_rfl) (fun _ _ _ h => h) (by rfl) (fun w' hS => by go_simp) hS ?_
              simp only [Act.put, List.setIfInBounds_toArray, List.set_cons_zero, List.set_cons_succ]
              clear hS
              refine wpAnyH_done (by kernel_rfl) ?_ _
              go_wp2_with fail
              go_meet
              case rel => exact ⟨M24002, A4, c4, L4, _, rfl, rfl, K4x, HO4x, HI4, hX9⟩
        case rest => as_aux_lemma =>
        obtain ⟨N24, A24, c24, L24, B24, rfl, rfl, K24, HO24, HI24, HXn⟩ := hcut
        clear HX
        have RTn := Lib.hid (RT.out.below HXn.out RT.out.lt)
        clear RT
        have RT := RTn
        clear RTn
        have KPn := Lib.hid (KP.out.below HXn.out KP.out.lt)
        clear KP
        have KP := KPn
        clear KPn
        have KKn := Lib.hid (KK.out.below HXn.out KK.out.lt)
        clear KK
        have KK := KKn
        clear KKn
        have K12n := Lib.hid (K12.out.below HXn.out K12.out.lt)
        clear K12
        have K12 := K12n
        clear K12n
        have K23n := Lib.hid (K23.out.below HXn.out K23.out.lt)
        clear K23
        have K23 := K23n
        clear K23n
        have HY8n := Lib.hid (HY8.out.below HXn.out)
        clear HY8
        have HY8 := HY8n
        clear HY8n
        have HO23n := Lib.hid (HO23.out.below HXn.out)
        clear HO23
        have HO23 := HO23n
        clear HO23n
        have HBn := Lib.hid (HB.out.trans (HXn.out.mono HB.out.size))
        clear HB
        have HB := HBn
        clear HBn
        have HRSn := Lib.hid (HRS.out.below HXn.out)
        clear HRS
        have HRS := HRSn
        clear HRSn HXn
        go_wp2_with fail
        refine (bk_open0 HSL.out HBK.out (some ⟨g8, 0, none⟩) cu wc (Own8.rd HY8.out) (fun e => by cases e) HCU.out.1 HCU.out.2 RT.out).mono ?_
        rintro e w5010 ⟨A25, c25, L25, rfl, ho, _, _, _, _, b1⟩
        have RTn := Lib.hid (RT.out.below b1 RT.out.lt)
        clear RT
        have RT := RTn
        clear RTn
        have KPn := Lib.hid (KP.out.below b1 KP.out.lt)
        clear KP
        have KP := KPn
        clear KPn
        have KKn := Lib.hid (KK.out.below b1 KK.out.lt)
        clear KK
        have KK := KKn
        clear KKn
        have K12n := Lib.hid (K12.out.below b1 K12.out.lt)
        clear K12
        have K12 := K12n
        clear K12n
        have K23n := Lib.hid (K23.out.below b1 K23.out.lt)
        clear K23
        have K23 := K23n
        clear K23n
        have K24n := Lib.hid (K24.out.below b1 K24.out.lt)
        clear K24
        have K24 := K24n
        clear K24n
        have HY8n := Lib.hid (HY8.out.below b1)
        clear HY8
        have HY8 := HY8n
        clear HY8n
        have HO23n := Lib.hid (HO23.out.below b1)
        clear HO23
        have HO23 := HO23n
        clear HO23n
        have HO24n := Lib.hid (HO24.out.below b1)
        clear HO24
        have HO24 := HO24n
        clear HO24n
        have HBn := Lib.hid (HB.out.trans (b1.mono HB.out.size))
        clear HB
        have HB := HBn
        clear HBn
        clear b1 ho
        obtain ⟨N5011, hN5011⟩ : ∃ N, w5010.heap.size = N := ⟨_, rfl⟩
        have HN5011 := Lib.hid hN5011
        clear hN5011
        go_wp2_with (refine wpList_new (op := ⟨some 22, _, _, _, _, _⟩) rfl 46 rfl (pdC pd0) zero_pdP N5011 HN5011.out ?_; intro w5011 k1 b1 s1; refine Hid.out ?_)
        refine Lib.hid ?_
        have K25 := Lib.hid k1
        have lt_g8_N5011 : g8 < N5011 := by rw [← HN5011.out]; exact Own8.lt HY8.out
        have hNK25 := Lib.hid (Nat.le_of_eq HN5011.out)
        have hbx := Lib.hid b1
        clear k1
        have lt_0_N5011 : 0 < N5011 := by rw [← HN5011.out]; exact RT.out.lt
        have lt_N1_N5011 : N1 < N5011 := by rw [← HN5011.out]; exact KP.out.lt
        have lt_N2_N5011 : N2 < N5011 := by rw [← HN5011.out]; exact KK.out.lt
        have lt_N56_N5011 : N56 < N5011 := by rw [← HN5011.out]; exact K12.out.lt
        have lt_N23_N5011 : N23 < N5011 := by rw [← HN5011.out]; exact K23.out.lt
        have lt_N24_N5011 : N24 < N5011 := by rw [← HN5011.out]; exact K24.out.lt
        have le_HB_N5011 : w.heap.size ≤ N5011 := by rw [← HN5011.out]; exact HB.out.size
        have RTn := Lib.hid (RT.out.below b1 RT.out.lt)
        clear RT
        have RT := RTn
        clear RTn
        have KPn := Lib.hid (KP.out.below b1 KP.out.lt)
        clear KP
        have KP := KPn
        clear KPn
        have KKn := Lib.hid (KK.out.below b1 KK.out.lt)
        clear KK
        have KK := KKn
        clear KKn
        have K12n := Lib.hid (K12.out.below b1 K12.out.lt)
        clear K12
        have K12 := K12n
        clear K12n
        have K23n := Lib.hid (K23.out.below b1 K23.out.lt)
        clear K23
        have K23 := K23n
        clear K23n
        have K24n := Lib.hid (K24.out.below b1 K24.out.lt)
        clear K24
        have K24 := K24n
        clear K24n
        have HBn := Lib.hid (HB.out.trans (b1.mono HB.out.size))
        clear HB
        have HB := HBn
        clear HBn
        clear b1 HN5011
        go_wp2_with (refine wpList_st rfl 46 (.tmp 22) (.tmp 132) rfl N5011 0 rfl (.agg (pdC (withT (rdP q F9) A25 (p.m + 1) c25))) (pdC (withT (rdP q F9) A25 (p.m + 1) c25)) rfl rfl info_pdP (pdC_one _) K25.out (Nat.le_of_ble_eq_true rfl) (C' := pdC (withT (rdP q F9) A25 (p.m + 1) c25)) (pd_over _ _) ?_; intro w5020 q1; refine Hid.out ?_)
        refine Lib.hid ?_
        have hby := Lib.hid (hbx.out.trans (q1.2.1 _ hNK25.out))
        have RTn := Lib.hid (RT.out.far q1 (by omega))
        clear RT
        have RT := RTn
        clear RTn
        have KPn := Lib.hid (KP.out.far q1 (by omega))
        clear KP
        have KP := KPn
        clear KPn
        have KKn := Lib.hid (KK.out.far q1 (by omega))
        clear KK
        have KK := KKn
        clear KKn
        have K12n := Lib.hid (K12.out.far q1 (by omega))
        clear K12
        have K12 := K12n
        clear K12n
        have K23n := Lib.hid (K23.out.far q1 (by omega))
        clear K23
        have K23 := K23n
        clear K23n
        have K24n := Lib.hid (K24.out.far q1 (by omega))
        clear K24
        have K24 := K24n
        clear K24n
        have HBn := Lib.hid (HB.out.trans (q1.2.1 _ (by omega)))
        clear HB
        have HB := HBn
        clear HBn
        have K25n : Hid (Blk 46 w5020 N5011 (pdC (withT (rdP q F9) A25 (p.m + 1) c25))) := Lib.hid q1.1
        clear K25
        have K25 := K25n
        clear K25n q1
        have HY8n : Hid (ByO w5020 g8 N9 cu F9) := Lib.hid (HY8.out.below hby.out)
        clear HY8
        have HY8 := HY8n
        clear HY8n
        have HO23n : Hid (TwO w5020 B23 (.slice A23 p.m c23) p.m L23) := Lib.hid (HO23.out.below hby.out)
        clear HO23
        have HO23 := HO23n
        clear HO23n
        have HO24n : Hid (TwO w5020 B24 (.slice A24 p.m c24) p.m L24) := Lib.hid (HO24.out.below hby.out)
        clear HO24
        have HO24 := HO24n
        clear HO24n
        clear hby hbx hNK25
        have c25b : w5020.cell? ⟨N5011, 46, none⟩ = some (.slice A25 (p.m + 1) c25) := (K25.out.cell 46).trans rfl
        have cpb : w5020.cell? ⟨N1, 46, none⟩ = some (.slice p.A p.m p.c) := (KP.out.cell 46).trans rfl
        have hC25 := Lib.hid c25b
        have hCP := Lib.hid cpb
        clear c25b cpb
        go_wp2_with (refine wpList_gv (op := ⟨some 145, _, _, _, _, _⟩) _ (by rfl) (load_rng _ _ 46 _ rfl N23 0 rfl (pdC (withT (rdP q F9) A23 p.m c23)).toList _ K23.out.all Tryd.underlying46 rfl info_pdP) ?_; refine Hid.out ?_)
        refine Lib.hid ?_
        go_wp2_with (refine wpList_gv (op := ⟨some 146, _, _, _, _, _⟩) _ (by rfl) (load_rng _ _ 42 _ rfl N56 0 rfl (pdC W9).toList _ K12.out.all Tryd.underlying42 rfl info_pdR) ?_; refine Hid.out ?_)
        refine Lib.hid ?_
        go_wp2_with fail
        refine (bk_same HSL.out HBK.out A23 c23 L23 HI23.out w5020 (by obtain ⟨A8, c8, e8, _, _, _, h8⟩ := OwnT.shape HO23.out; injection e8 with e8 _ _; rw [e8]; exact h8) (HR0.out.below HB.out) (by have := H32.out; omega)).mono ?_
        rintro e w5030 ⟨rfl, b1⟩
        have RTn := Lib.hid (RT.out.below b1 RT.out.lt)
        clear RT
        have RT := RTn
        clear RTn
        have KPn := Lib.hid (KP.out.below b1 KP.out.lt)
        clear KP
        have KP := KPn
        clear KPn
        have KKn := Lib.hid (KK.out.below b1 KK.out.lt)
        clear KK
        have KK := KKn
        clear KKn
        have K12n := Lib.hid (K12.out.below b1 K12.out.lt)
        clear K12
        have K12 := K12n
        clear K12n
        have K23n := Lib.hid (K23.out.below b1 K23.out.lt)
        clear K23
        have K23 := K23n
        clear K23n
        have K24n := Lib.hid (K24.out.below b1 K24.out.lt)
        clear K24
        have K24 := K24n
        clear K24n
        have K25n := Lib.hid (K25.out.below b1 K25.out.lt)
        clear K25
        have K25 := K25n
        clear K25n
        have HY8n := Lib.hid (HY8.out.below b1)
        clear HY8
        have HY8 := HY8n
        clear HY8n
        have HO23n := Lib.hid (HO23.out.below b1)
        clear HO23
        have HO23 := HO23n
        clear HO23n
        have HO24n := Lib.hid (HO24.out.below b1)
        clear HO24
        have HO24 := HO24n
        clear HO24n
        have HBn := Lib.hid (HB.out.trans (b1.mono HB.out.size))
        clear HB
        have HB := HBn
        clear HBn
        clear b1
        go_wp2_with (refine wpList_gv (op := ⟨some 150, _, _, _, _, _⟩) _ (by rfl) (load_rng _ _ 46 _ rfl N24 0 rfl (pdC (withT (rdP q F9) A24 p.m c24)).toList _ K24.out.all Tryd.underlying46 rfl info_pdP) ?_; refine Hid.out ?_)
        refine Lib.hid ?_
        go_wp2_with (refine wpList_gv (op := ⟨some 151, _, _, _, _, _⟩) _ (by rfl) (load_rng _ _ 42 _ rfl N56 0 rfl (pdC W9).toList _ K12.out.all Tryd.underlying42 rfl info_pdR) ?_; refine Hid.out ?_)
        refine Lib.hid ?_
        go_wp2_with fail
        refine (bk_same HSL.out HBK.out A24 c24 L24 HI24.out w5030 (by obtain ⟨A8, c8, e8, _, _, _, h8⟩ := OwnT.shape HO24.out; injection e8 with e8 _ _; rw [e8]; exact h8) (HR0.out.below HB.out) (by have := H32.out; omega)).mono ?_
        rintro e w5040 ⟨rfl, b1⟩
        have RTn := Lib.hid (RT.out.below b1 RT.out.lt)
        clear RT
        have RT := RTn
        clear RTn
        have KPn := Lib.hid (KP.out.below b1 KP.out.lt)
        clear KP
        have KP := KPn
        clear KPn
        have KKn := Lib.hid (KK.out.below b1 KK.out.lt)
        clear KK
        have KK := KKn
        clear KKn
        have K12n := Lib.hid (K12.out.below b1 K12.out.lt)
        clear K12
        have K12 := K12n
        clear K12n
        have K23n := Lib.hid (K23.out.below b1 K23.out.lt)
        clear K23
        have K23 := K23n
        clear K23n
        have K24n := Lib.hid (K24.out.below b1 K24.out.lt)
        clear K24
        have K24 := K24n
        clear K24n
        have K25n := Lib.hid (K25.out.below b1 K25.out.lt)
        clear K25
        have K25 := K25n
        clear K25n
        have HY8n := Lib.hid (HY8.out.below b1)
        clear HY8
        have HY8 := HY8n
        clear HY8n
        have HO23n := Lib.hid (HO23.out.below b1)
        clear HO23
        have HO23 := HO23n
        clear HO23n
        have HO24n := Lib.hid (HO24.out.below b1)
        clear HO24
        have HO24 := HO24n
        clear HO24n
        have HBn := Lib.hid (HB.out.trans (b1.mono HB.out.size))
        clear HB
        have HB := HBn
        clear HBn
        clear b1
        have c25b : w5040.cell? ⟨N5011, 46, none⟩ = some (.slice A25 (p.m + 1) c25) := (K25.out.cell 46).trans rfl
        have cpb : w5040.cell? ⟨N1, 46, none⟩ = some (.slice p.A p.m p.c) := (KP.out.cell 46).trans rfl
        have hwm : IntKind.i64.wrap ((p.m : Int) + 1) = (p.m : Int) + 1 := by have := H32.out; rw [IntKind.wrap_i64] <;> omega
        go_wp2_with fail
        go_ret
        exact ⟨rfl, HB.out⟩
  · have hN0 : N9 = 0 := by rw [← HSP.out.1]; unfold seN; rw [HSP.out.2.1, if_neg hX0]
    subst hN0
    have hXb : (X9 != 0) = true := by simpa using hX0
    go_wp2
    go_ret
    exact ⟨rfl, HB.out⟩
end Go.Proofs.YtccoicjmmeoggaaDoor
