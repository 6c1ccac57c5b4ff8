/- Texts of this claim put together; each theorem states its conditions. -/
import Derived.Test.YtfojfdlapekjoaaGPduReads10
/- The walk of PduReads: for every input the law returns true, and nothing that was there is written. No condition. -/
namespace Go.Proofs.Ytfojfdlapekjoaa
open Go.RowKit
set_option linter.unusedVariables false

theorem OwnW.pd {w : World} {base m : Nat} {v : Value} {K : Nat → It} (h : OwnW w base v m K) (k : Nat) (hk : k < m) (g : Nat) (hg : (K k).A = some ⟨g, 0, none⟩) {P : Nat} {x : Pd} (hP : PdT 33 w P x) (i : Nat) (u : Value) : PdT 33 (w.setCell ⟨g, i, none⟩ u) P x := by
  obtain ⟨g', hg', _, z, ⟨cur', hc', _⟩, _⟩ := h.2 k hk
  rw [hg] at hg'
  injection hg' with hg'
  injection hg' with hg'
  subst hg'
  have hne : P ≠ g := by
    intro e; subst e
    unfold PdT at hP
    rw [hP] at hc'
    simp at hc'
  exact (Below.heap_setCell w _ _ P (by simpa using hne)).trans hP
theorem it_alike {z : Nat → Int} {L L' : Nat → It} {m : Nat} (h : IsItZ z L m) (h' : IsItZ z L' m) : ∀ j, j < m → (L j).ty = (L' j).ty ∧ (L j).n = (L' j).n ∧ ∀ i, i < (L j).n → (L j).z i = (L' j).z i := by
  intro j hj
  obtain ⟨g, cap, e⟩ := h j hj
  obtain ⟨g', cap', e'⟩ := h' j hj
  rw [e, e']
  exact ⟨rfl, rfl, fun i _ => rfl⟩
/-- what was read is written as just these bytes -/
theorem write_back {z : Nat → Int} {n m : Nat} (hn2 : n ≤ 1492) (hz : ∀ j, 0 ≤ z j ∧ z j ≤ 255) (hg : GoodZ z n m) {L : Nat → It} (hI : IsItZ (tlZ (cls (z 4)) z) L m) (A : Option Addr) (c : Nat) :
    JEnds L m m ∧ wrX (withT (rdP (cls (z 4)) z) A m c) L m = 0 ∧ wrN (withT (rdP (cls (z 4)) z) A m c) L m = n ∧ ∀ j, j < n → wrZ (withT (rdP (cls (z 4)) z) A m c) L m j = z j := by
  obtain ⟨hf, hft, hE, hp, hrb⟩ := hg
  have hf' := hf
  obtain ⟨h8, hq, hh, h1, h2⟩ := hf
  have hz' : ∀ j, 0 ≤ tlZ (cls (z 4)) z j ∧ tlZ (cls (z 4)) z j ≤ 255 := fun j => hz _
  have hbad := good_it hz' hI (by rw [hp]; omega)
  have hs : sz L m = n - hdN (cls (z 4)) := (sz_it hI m (Nat.le_refl _)).trans hp
  have hk : (withT (rdP (cls (z 4)) z) A m c).kd = z 4 := rdP_kd _ z
  have hfx : fitP (withT (rdP (cls (z 4)) z) A m c) (cls (z 4)) = true := (fit_withT _ _ _ _ _).trans hft
  have hmm : (withT (rdP (cls (z 4)) z) A m c).m = m := rfl
  have hne : ¬ (cls (withT (rdP (cls (z 4)) z) A m c).kd = 5 ∨ fitP (withT (rdP (cls (z 4)) z) A m c) (cls (withT (rdP (cls (z 4)) z) A m c).kd) = false) := by
    rw [hk]
    rintro (h | h)
    · omega
    · exact Bool.noConfusion (hfx.symm.trans h)
  have hnl : ¬ (m < (withT (rdP (cls (z 4)) z) A m c).m ∨ 1492 < hdN (cls (withT (rdP (cls (z 4)) z) A m c).kd) + sz L (withT (rdP (cls (z 4)) z) A m c).m) := by
    rw [hk, hmm, hs]
    omega
  obtain ⟨e1, e2, e3⟩ := wr_0 _ L m hne hnl
  refine ⟨⟨Nat.le_refl _, hbad, .inl rfl⟩, e1, by rw [e2, hk, hmm, hs]; omega, fun j hj => ?_⟩
  rw [e3, hk]
  have hb := (back_iff (cls (z 4)) hq z n m L A c rfl h8 hh hn2 hz hI hp).2 hf'
  by_cases h22 : cls (z 4) = 2
  · have hW : hdN 2 + sz L (withT (rdP (cls (z 4)) z) A m c).m = n := by rw [hmm, hs, h22]; rw [h22] at hh; omega
    have h27 : 27 ≤ n := by
      rw [h22] at hh
      have : hdN 2 = 27 := rfl
      omega
    have ha := (all_iff (withT (rdP (cls (z 4)) z) A m c) L n h27 hW z (fun j hj hne => by have := hb j hj (fun _ => hne); rw [h22] at this ⊢; exact this)).2 (hrb h22)
    have := ha j hj
    rw [h22] at this ⊢
    exact this
  · exact hb j hj (fun h => absurd h h22)
set_option maxHeartbeats 8000000 in
set_option maxRecDepth 100000 in
theorem reads_yes (A : Option Addr) (n c : Nat) (z : Nat → Int) (w : World) (h : Rd w A n z) (hA : A = none → n = 0 ∧ c = 0) (hc : n ≤ c) (hcm : c ≤ maxLen) (hn : n ≤ 140737488351232) (hn2 : n ≤ 1492) (m : Nat) (hgd : GoodZ z n m) (hb : BothYes n z m) :
    Calls Try.prog 4 #[.slice A n c] w fun e w' => e = .returned (.bool true) ∧ Below w.heap.size w w' := by
  have HR := Lib.hid h
  have HA := Lib.hid hA
  clear h hA
  have HB := Lib.hid hb
  have hzb := HR.out.2
  have hmn : 2 * m ≤ n := by
    have h1 := pos_mono (tlZ (cls (z 4)) z) 0 m (by omega)
    have h2 := hgd.2.2.2.1
    simp only [pos] at h1
    omega
  have HW := Lib.hid (fun (L : Nat → It) (hI : IsItZ (tlZ (cls (z 4)) z) L m) (A : Option Addr) (c : Nat) => write_back hn2 hzb hgd hI A c)
  have hq4 : cls (z 4) ≤ 4 := hgd.1.2.1
  have HRO := Lib.hid (rdP_ok (cls (z 4)) hq4 z hzb)
  obtain ⟨rd, hrd⟩ : ∃ r, rdP (cls (z 4)) z = r := ⟨_, rfl⟩
  obtain ⟨tz, htz⟩ : ∃ t, tlZ (cls (z 4)) z = t := ⟨_, rfl⟩
  have HTZ : Hid (∀ j, 0 ≤ tz j ∧ tz j ≤ 255) := Lib.hid (by rw [← htz]; exact fun j => hzb _)
  have HB1 : Hid (∀ (A : Option Addr) (c : Nat) (w : World), Rd w A n z → n ≤ c → c ≤ maxLen → Calls Try.prog 16 #[.slice A n c] w (RdL w rd tz m)) := Lib.hid fun A c w h1 h2 h3 => by
    have := HB.out.1 A c w h1 h2 h3
    unfold RdOk at this
    rw [hrd, htz] at this
    exact this
  have HB2 : Hid (∀ (A : Option Addr) (c : Nat) (w : World), Rd w A n z → n ≤ c → c ≤ maxLen → Calls Try.prog 20 #[.slice A n c] w (RdL w rd tz m)) := Lib.hid fun A c w h1 h2 h3 => by
    have := HB.out.2 A c w h1 h2 h3
    unfold RdOk at this
    rw [hrd, htz] at this
    exact this
  rw [hrd, htz] at HW
  rw [hrd] at HRO
  clear hb hgd HB hrd htz hq4
  go_enter Try.func4, Try.ntmps4
  go_wp2_with fail
  refine (awake_any _).mono ?_
  rintro e w1 ⟨rfl, hb1⟩
  go_wp2_with fail
  refine (spare_any A n c z _ (HR.out.below hb1 rfl) HA.out hn).mono ?_
  rintro e w2 ⟨g, cap, rfl, hg, ho, hb2⟩
  have hcap := ho.caps
  have hb12 := Lib.hid (hb1.trans (hb2.mono hb1.size))
  have hO := Lib.hid ho
  clear hb1 hb2 ho
  go_wp2_with fail
  refine (HB1.out (some ⟨g, 0, none⟩) cap w2 (rd_spz hO.out hzb) (by omega) hcap.2).mono ?_
  rintro e w3 ⟨A1, c1, L1, rfl, hT, hI, hA1, hm1, hc1, hb3⟩
  obtain ⟨x, hx⟩ : ∃ x, withT rd A1 m c1 = x := ⟨_, rfl⟩
  rw [hx]
  have HX := Lib.hid hx
  have HI := Lib.hid hI
  have HT := Lib.hid hT
  have HC1 := Lib.hid (And.intro hm1 hc1)
  clear hx hI hT hA1 hm1 hc1
  obtain ⟨P5, hP5⟩ : ∃ P, w3.heap.size = P := ⟨_, rfl⟩
  obtain ⟨VP5, hVP5⟩ : ∃ W, w3.alloc (.cells (pdC pd0) 33) = W := ⟨_, rfl⟩
  have HMP5 : Hid (PdT 33 VP5 P5 pd0) := Lib.hid (by rw [← hVP5, ← hP5]; exact heap_alloc_new w3 _)
  have HNP5 : Hid (Below P5 w3 VP5) := Lib.hid (by rw [← hVP5, ← hP5]; exact (bself w3).alloc (Nat.le_refl _) _)
  have HPP5 := Lib.hid hP5
  have HVP5 := Lib.hid hVP5
  clear hP5 hVP5
  go_wp2_with (first
    | (refine wpList_v (op := ⟨some 5, _, _, _, _, _⟩) rfl _ (alloc_P' _ _ rfl w3 VP5 P5 HPP5.out HVP5.out) ?_)
    | (refine wpList_st rfl 33 (.tmp 5) (.tmp 23) rfl P5 0 rfl (.agg (pdC x)) (pdC x) rfl rfl info_pdP (pdC_one _) HMP5.out (Nat.le_of_ble_eq_true rfl) (pd_all _ _) ?_; intro w5 hst; refine Hid.out ?_))
  refine Lib.hid ?_
  have hbP5 : Below w3.heap.size w3 w5 := by rw [HPP5.out]; exact HNP5.out.trans (hst.2.1 P5 (Nat.le_refl _))
  have HXP5 : Hid (PdT 33 w5 P5 x) := Lib.hid hst.1
  clear hst HMP5 HNP5 HVP5
  have hb25 := Lib.hid (hb3.trans (hbP5.mono hb3.size))
  have hb15 := Lib.hid (hb12.out.trans (hb25.out.mono hb12.out.size))
  have HT5 := Lib.hid (HT.out.below hbP5)
  clear hb3 hbP5 HT
  go_wp2_with fail
  refine (HB2.out A c w5 (HR.out.below hb15.out rfl) hc hcm).mono ?_
  rintro e w6 ⟨A2, c2, L2, rfl, hT2, hI2, hA2, hm2, hc2, hb6⟩
  obtain ⟨y, hy⟩ : ∃ y, withT rd A2 m c2 = y := ⟨_, rfl⟩
  rw [hy]
  have HY := Lib.hid hy
  have HI2 := Lib.hid hI2
  have HT2 := Lib.hid hT2
  clear hy hI2 hT2 hA2 hm2 hc2
  obtain ⟨P7, hP7⟩ : ∃ P, w6.heap.size = P := ⟨_, rfl⟩
  obtain ⟨VP7, hVP7⟩ : ∃ W, w6.alloc (.cells (pdC pd0) 31) = W := ⟨_, rfl⟩
  have HMP7 : Hid (PdT 31 VP7 P7 pd0) := Lib.hid (by rw [← hVP7, ← hP7]; exact heap_alloc_new w6 _)
  have HNP7 : Hid (Below P7 w6 VP7) := Lib.hid (by rw [← hVP7, ← hP7]; exact (bself w6).alloc (Nat.le_refl _) _)
  have HPP7 := Lib.hid hP7
  have HVP7 := Lib.hid hVP7
  clear hP7 hVP7
  go_wp2_with (first
    | (refine wpList_v (op := ⟨some 7, _, _, _, _, _⟩) rfl _ (alloc_R' _ _ rfl w6 VP7 P7 HPP7.out HVP7.out) ?_)
    | (refine wpList_st rfl 31 (.tmp 7) (.tmp 28) rfl P7 0 rfl (.agg (pdC y)) (pdC y) rfl rfl info_pdR (pdC_one _) HMP7.out (Nat.le_of_ble_eq_true rfl) (pd_all _ _) ?_; intro w8 hst; refine Hid.out ?_))
  refine Lib.hid ?_
  have hbP7 : Below w6.heap.size w6 w8 := by rw [HPP7.out]; exact HNP7.out.trans (hst.2.1 P7 (Nat.le_refl _))
  have HXP7 : Hid (PdT 31 w8 P7 y) := Lib.hid hst.1
  clear hst HMP7 HNP7 HVP7
  have hb58 := Lib.hid (hb6.trans (hbP7.mono hb6.size))
  have HX5 := Lib.hid (HXP5.out.below hb58.out HXP5.out.lt)
  have HT8 := Lib.hid (HT5.out.below hb58.out)
  have HT28 := Lib.hid (HT2.out.below hbP7)
  have hb28 := Lib.hid (hb25.out.trans (hb58.out.mono hb25.out.size))
  clear hb6 hbP7 HXP5 hb25 hb15 HT5 HT2
  have hsame : Calls Try.prog 17 #[.agg (pdC x), .agg (pdC y)] w8 fun e w' => e = .returned (.bool true) ∧ Below w8.heap.size w8 w' := by
    obtain ⟨A9, c9, e9, _, _, _, hr9⟩ := HT8.out.shape
    cases e9
    obtain ⟨A9, c9, e9, _, _, _, hr8⟩ := HT28.out.shape
    cases e9
    refine same_pd x y L1 L2 w8 (by rw [← HX.out]; exact HRO.out) (by rw [← HX.out, ← HY.out]; rfl) (by rw [← HX.out]; exact hr9) (by rw [← HY.out]; exact hr8) (by rw [← HX.out, ← HY.out]; rfl) (by rw [← HX.out]; show m ≤ _; omega) (by rw [← HX.out]; exact it_alike HI.out HI2.out)
  have HS := Lib.hid hsame
  clear hsame
  go_wp2_with (first
    | (refine wpList_load_mid (op := ⟨some 30, _, _, _, _, _⟩) rfl 33 _ rfl P5 0 rfl (pdC x).toList _ HX5.out.all Try.underlying33 rfl info_pdP ?_)
    | (refine wpList_load_mid (op := ⟨some 31, _, _, _, _, _⟩) rfl 31 _ rfl P7 0 rfl (pdC y).toList _ HXP7.out.all Try.underlying31 rfl info_pdR ?_))
  refine HS.out.mono ?_
  rintro e w9 ⟨rfl, hb9⟩
  have HX9 := Lib.hid (HX5.out.below hb9 HX5.out.lt)
  have HT9 := Lib.hid (HT8.out.below hb9)
  have hb29 := Lib.hid (hb28.out.trans (hb9.mono hb28.out.size))
  have hb19 := Lib.hid (hb12.out.trans (hb29.out.mono hb12.out.size))
  clear hb9 hb28 HX5 HXP7 HS HT8 HT28 HI2 HY
  go_wp2_with (refine wpList_load_mid (op := ⟨some 42, _, _, _, _, _⟩) rfl 33 _ rfl P5 0 rfl (pdC x).toList _ HX9.out.all Try.underlying33 rfl info_pdP ?_)
  obtain ⟨hj, hwx, hwn, hwz⟩ := HW.out L1 HI.out A1 c1
  rw [HX.out] at hwx hwn hwz
  have hxm : x.m = m := by rw [← HX.out]; rfl
  have hin : PdIn w9 x L1 := by
    obtain ⟨A9, c9, e9, _, _, _, hr9⟩ := HT9.out.shape
    cases e9
    rw [← HX.out]
    exact ⟨hr9, HC1.out.1, Nat.le_trans HC1.out.2 (by decide)⟩
  have hwr := write_any x (by rw [← HX.out]; exact HRO.out) L1 m (by rw [hxm]; exact hj) w9 hin
  rw [hwx, hwn] at hwr
  refine hwr.mono ?_
  rintro e w10 ⟨A8, c8, rfl, hr8, hc8, hm8, hb10, _⟩
  have HX10 := Lib.hid (HX9.out.below hb10 HX9.out.lt)
  have HT10 := Lib.hid (HT9.out.below hb10)
  have HR8 := Lib.hid hr8
  have HWZ := Lib.hid hwz
  have hb2a := Lib.hid (hb29.out.trans (hb10.mono hb29.out.size))
  have hb1a := Lib.hid (hb12.out.trans (hb2a.out.mono hb12.out.size))
  clear hj hwx hwn hwz hin hwr hr8 hb10 HX9 HT9 hb29 hb19
  have f00 : ((0 : Int) != 0) = false := rfl
  go_wp2_with fail
  refine (same_yes A8 A n c8 c _ z _ HR8.out (HR.out.below hb1a.out rfl) HWZ.out (by omega)).mono ?_
  rintro e wx ⟨rfl, r2, rfl⟩
  have hbd := below_drewN w10 r2
  have HXb := Lib.hid (HX10.out.below hbd HX10.out.lt)
  have hWb := (HT10.out.below hbd).whichever
  have hb2b := Lib.hid (hb2a.out.trans (hbd.mono hb2a.out.size))
  obtain ⟨wb, hwb⟩ : ∃ wb, w10.drewN r2 = wb := ⟨_, rfl⟩
  rw [hwb] at HXb hWb hb2b ⊢
  have hn140 : ∀ j, j < m → (L1 j).n ≤ 255 := fun j hj => by
    obtain ⟨g, cap, e⟩ := HI.out j hj
    have := HTZ.out (pos tz j + 1)
    rw [e]; show (tz (pos tz j + 1)).toNat ≤ 255
    omega
  have HN := Lib.hid hn140
  have HWB := Lib.hid hWb
  have c46 : wb.cell? ⟨P5, 46, none⟩ = some (.slice A1 m c1) := (HXb.out.cell 46).trans (by rw [← HX.out]; rfl)
  have hmc := HC1.out
  unfold maxLen at hmc
  clear hwb hbd HX10 HT10 HR8 HWZ hb1a hb2a hn140 hWb
  go_wp2_with fail
  have hg2 := Lib.hid hO.out.lt
  have hw2 := hb12.out.size
  clear c46
  go_loopw [57] (fun i wr => ∃ k : Nat, k ≤ m ∧ i = .int .i64 k ∧ Hid (OwnW wr w2.heap.size (.slice A1 m c1) m L1) ∧ Hid (Below w2.heap.size w2 wr) ∧ Hid (PdT 33 wr P5 x))
    (fun i _ => m - (intOf i).toNat)
  case atStart => exact ⟨0, by omega, rfl, HWB, hb2b, HXb⟩
  case round =>
    clear HWB hb2b HXb
    obtain ⟨k, hk, rfl, HOW, HBW, HPW⟩ := hrel
    by_cases hkm : k < m
    · obtain ⟨b, lc2, gk, he, hc1, hA1, hgk, hby⟩ := HOW.out.at k hkm
      have hnk := HN.out k hkm
      have c46 : wr.cell? ⟨P5, 46, none⟩ = some (.slice A1 m c1) := (HPW.out.cell 46).trans (by rw [← HX.out]; rfl)
      injection he with he1 he2 he3
      subst he1
      clear hA1 hby he3
      go_wp2_with fail
      clear hc1 c46
      go_loopw [67] (fun i wr => ∃ q : Nat, q ≤ (L1 k).n ∧ i = .int .i64 q ∧ Hid (OwnW wr w2.heap.size (.slice (some ⟨b, 0, none⟩) m c1) m L1) ∧ Hid (Below w2.heap.size w2 wr) ∧ Hid (PdT 33 wr P5 x))
        (fun i _ => (L1 k).n - (intOf i).toNat)
      case atStart => exact ⟨0, by omega, rfl, HOW, HBW, HPW⟩
      case round =>
        clear HOW HBW HPW
        obtain ⟨q, hq, rfl, HOW, HBW, HPW⟩ := hrel
        by_cases hqn : q < (L1 k).n
        · obtain ⟨b', lc2, gk', he, hc1, hA1, hgk', hby⟩ := HOW.out.at k hkm
          injection he with he1 he2 he3
          injection he1 with he1
          injection he1 with he1
          subst he1
          obtain ⟨xx, hx0, hx1, hcx, hfx⟩ := hby q hqn
          have c46 : wr.cell? ⟨P5, 46, none⟩ = some (.slice (some ⟨b, 0, none⟩) m c1) := (HPW.out.cell 46).trans (by rw [← HX.out]; rfl)
          have hxb := xor1_bd xx ⟨hx0, hx1⟩
          have HP := Lib.hid (HOW.out.put k hkm gk' hA1 q _ hxb)
          have HBP := Lib.hid (HBW.out.setCell (p := ⟨gk', q, none⟩) hgk' (.int .u8 (bits .xor .u8 xx 1)))
          have HPP := Lib.hid (OwnW.pd HOW.out k hkm gk' hA1 HPW.out q (.int .u8 (bits .xor .u8 xx 1)))
          clear HOW HBW HPW hby hA1 he3
          generalize hnn : (L1 k).n = nk at *
          generalize hcc : (L1 k).c = ck at *
          go_wp2
          go_roundw
          case rel => exact ⟨q + 1, by omega, by go_num, HP, HBP, HPP⟩
          case measure => simp only [intOf]; omega
        · obtain rfl : q = (L1 k).n := by omega
          go_wp2
          go_roundw
          case rel => exact ⟨k + 1, by omega, by go_num, HOW, HBW, HPW⟩
          case measure => simp only [intOf]; omega
    · obtain rfl : k = m := by omega
      go_wp2_with fail
      refine (kept_yes g n cap A c z _ (hO.out.below HBW.out hg2.out) (HR.out.below ((hb12.out.trans (HBW.out.mono hw2))) rfl) (by omega)).mono ?_
      rintro e w8 ⟨rfl, r', rfl⟩
      go_wp2
      go_ret
      exact ⟨rfl, (hb12.out.trans (HBW.out.mono hw2)).trans ((below_drewN wr r').mono (hb12.out.trans (HBW.out.mono hw2)).size)⟩
theorem walkPduReads (A : Option Addr) (n c : Nat) (zs : List Int) (w : World) (h : IsRow .u8 w A n c zs) (hs : c * 1 ≤ 140737488351232) :
    Calls Try.prog 4 #[.slice A n c] w fun e w' => e = .returned (.bool true) ∧ Below w.heap.size w w' := by
  obtain ⟨hR, hA⟩ := isRow_rd h
  have hc := (isRow_len h).1
  have hn : n ≤ 140737488351232 := by omega
  have hcm : c ≤ maxLen := by unfold maxLen; omega
  rcases both_rd n (fun j => zs.getD j 0) with ⟨E, hE, hb⟩ | ⟨m, hn2, hg, hb⟩
  · exact reads_no A n c _ w hR hA hc hcm hn E hE hb
  · exact reads_yes A n c _ w hR hA hc hcm hn hn2 m hg hb
end Go.Proofs.Ytfojfdlapekjoaa
