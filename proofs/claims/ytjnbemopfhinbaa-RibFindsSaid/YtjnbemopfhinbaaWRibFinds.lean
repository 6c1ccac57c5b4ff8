/- RibFinds, walked: a table of any routes is made, or it is said why not; each address has the route of its longest prefix; routes come back untouched, answers are new memory. Each theorem states its conditions. -/
import Derived.Test.YtjnbemopfhinbaaRbFi
import Derived.Test.YtjnbemopfhinbaaRbSw
import Derived.Test.YtjnbemopfhinbaaTrSp
import Derived.Test.YtjnbemopfhinbaaRbOr
import Derived.Deep.DeepCutAuto
namespace Go.Proofs.Ytjnbemopfhinbaa
open Go.RowKit
set_option linter.unusedVariables false
set_option linter.unusedSimpArgs false

set_option maxHeartbeats 64000000 in
set_option maxRecDepth 100000 in
theorem walkRibFinds (a0 : Option Addr) (len0 cap0 : Nat) (L0_ : Nat → Rx) (a1 : Int) (zz : Nat → Int) (w : World) (h0 : InRx w a0 len0 cap0 L0_) (h1 : (Lit.int .u8 a1).wf = true) (h2 : Bytes zz) :
    Calls Try.prog 8 #[.slice a0 len0 cap0, .int .u8 a1, .agg (agC zz)] w fun e w' => e = .returned (.bool true) ∧ Below w.heap.size w w' := by
  obtain ⟨L0, h0, hc0⟩ : ∃ L, InRx w a0 len0 cap0 L ∧ ∀ j, Can (L j).r := ⟨_, in_can h0, fun j => can_can _⟩
  have HL := Lib.hid h0
  have HC0 := Lib.hid hc0
  have HX2 := Lib.hid h2
  have HAW := Lib.hid awakeR_any
  have HRB := Lib.hid (fun j => (h0.2.1 j).1)
  clear h0 hc0 h1 h2
  obtain ⟨n, hn⟩ : ∃ n, min len0 60 = n := ⟨_, rfl⟩
  have HN : Hid (n ≤ len0 ∧ n ≤ 60) := Lib.hid (by omega)
  have HNE := Lib.hid hn
  clear hn
  have HRR : Hid (∀ W, Below w.heap.size w W → RdR W a0 n 21 (fun j => rxC (L0 j)) ∧ ∀ j, j < n → HopAt W (L0 j)) := Lib.hid (fun W hW => ⟨(HL.out.1.below hW rfl).cut n HN.out.1, fun j _ => (HL.out.2.1 j).2.below hW⟩)
  go_enter Try.func8, Try.ntmps8
  have HB := Lib.hid (Below.refl w.heap.size w)
  obtain ⟨NK5, hNK5⟩ : ∃ N, w.heap.size = N := ⟨_, rfl⟩
  have HNK5 := Lib.hid hNK5
  clear hNK5
  go_wp2_with (refine wpList_box (op := ⟨some 5, _, _, _, _, _⟩) rfl 23 (.tmp 2) rfl (agC zz) rfl NK5 HNK5.out ?_; intro w1 k1 b1 s1; refine Hid.out ?_)
  refine Lib.hid ?_
  have HBn := Lib.hid (HB.out.trans (b1.mono HB.out.size))
  clear HB
  have HB := HBn
  clear HBn
  have K5 := Lib.hid k1
  clear k1 b1 s1 HNK5
  go_wp2_with fail
  refine (HAW.out _).mono ?_
  rintro e w2 ⟨rfl, b1⟩
  have HBn := Lib.hid (HB.out.trans (b1.mono HB.out.size))
  clear HB
  have HB := HBn
  clear HBn
  have K5n := Lib.hid (K5.out.below b1 K5.out.lt)
  clear K5
  have K5 := K5n
  clear K5n
  clear b1
  go_wp2_with (refine wpList_v (op := ⟨some 31, _, _, _, _, _⟩) rfl (.int .i64 (n : Int)) (by rw [← HNE.out]; exact min60 _ _ _ rfl len0 rfl rfl _) ?_; refine Hid.out ?_)
  refine Lib.hid ?_
  go_wp2_with (refine wpList_v (op := ⟨some 32, _, _, _, _, _⟩) rfl (.slice a0 n cap0) (slice_rt _ _ _ _ rfl a0 len0 cap0 n (by rcases HL.out.1 with h | ⟨b, o, h, _⟩; exact .inl h; exact .inr ⟨b, o, h⟩) rfl rfl HN.out.1 HL.out.2.2.2.1 _) ?_; refine Hid.out ?_)
  refine Lib.hid ?_
  have HB2 := HB
  have HC2 := Lib.hid (Below.refl w2.heap.size w2)
  go_wp2_with fail
  refine (twin_any L0 a0 n cap0 w2 (HRR.out _ HB.out).1 (HRR.out _ HB.out).2 (by have := HN.out; omega)).mono ?_
  rintro e w3 ⟨v7, S1, rfl, hc, b1⟩
  have HBn := Lib.hid (HB.out.trans (b1.mono HB.out.size))
  clear HB
  have HB := HBn
  clear HBn
  have K5n := Lib.hid (K5.out.below b1 K5.out.lt)
  clear K5
  have K5 := K5n
  clear K5n
  have HC2n := Lib.hid (HC2.out.trans (b1.mono HC2.out.size))
  clear HC2
  have HC2 := HC2n
  clear HC2n
  clear b1
  have HCA := Lib.hid (hc)
  clear hc
  obtain ⟨A7, c7, rfl, _, _, _, hr7⟩ := HCA.out.own.shape (rxB_recs _) (by decide)
  have HR7 := Lib.hid (hr7)
  clear hr7
  have HB3 := Lib.hid (Below.refl w3.heap.size w3)
  go_wp2_with fail
  refine (build_err (fun j => S1.getD j rx0) A7 n c7 w3 HR7.out (fun j hj => (HCA.out.hop _ (S_mem HCA.out.len hj)).at) (fun j hj => by rw [HCA.out.same j hj]; exact (HRB.out j).p) (by have := HN.out; omega)).mono ?_
  rintro e w4 ⟨b1, h⟩
  have HBn := Lib.hid (HB.out.trans (b1.mono HB.out.size))
  clear HB
  have HB := HBn
  clear HBn
  have K5n := Lib.hid (K5.out.below b1 K5.out.lt)
  clear K5
  have K5 := K5n
  clear K5n
  have HB3n := Lib.hid (HB3.out.trans (b1.mono HB3.out.size))
  clear HB3
  have HB3 := HB3n
  clear HB3n
  clear b1
  rcases h with ⟨e1, he1, hx1, rfl⟩ | ⟨tt, ss, A, c, S, T, hx1, rfl, htb, hpm, hac, hhi⟩
  · have HX1 : Hid (ErrX n L0 e1) := Lib.hid (hx1.congr HCA.out.same)
    have HE1 := Lib.hid he1
    have hne : (e1 != 0) = true := by rcases he1 with rfl | rfl <;> decide
    clear hx1 he1
    go_wp2_with fail
    refine (rerr_any L0 a0 n cap0 w4 (HRR.out _ HB.out).1 HRB.out HC0.out (by have := HN.out; omega)).mono ?_
    rintro e w5 ⟨b1, er, hx2, rfl⟩
    have HBn := Lib.hid (HB.out.trans (b1.mono HB.out.size))
    clear HB
    have HB := HBn
    clear HBn
    have K5n := Lib.hid (K5.out.below b1 K5.out.lt)
    clear K5
    have K5 := K5n
    clear K5n
    have HB3n := Lib.hid (HB3.out.trans (b1.mono HB3.out.size))
    clear HB3
    have HB3 := HB3n
    clear HB3n
    clear b1
    obtain rfl : e1 = er := HX1.out.uniq hx2
    clear hx2
    go_wp2_with fail
    refine (same_any (fun j => S1.getD j rx0) L0 A7 a0 n c7 cap0 w5 (HR7.out.below HB3.out rfl) (HRR.out _ HB.out).1 (fun j hj => HCA.out.same j hj) (fun j hj => by rw [HCA.out.same j hj]; exact HRB.out j) (fun j hj => ((HCA.out.hop _ (S_mem HCA.out.len hj)).at).below HB3.out) (HRR.out _ HB.out).2 (by have := HN.out; omega)).mono ?_
    rintro e w6 ⟨rfl, b1⟩
    have HBn := Lib.hid (HB.out.trans (b1.mono HB.out.size))
    clear HB
    have HB := HBn
    clear HBn
    have K5n := Lib.hid (K5.out.below b1 K5.out.lt)
    clear K5
    have K5 := K5n
    clear K5n
    have HB3n := Lib.hid (HB3.out.trans (b1.mono HB3.out.size))
    clear HB3
    have HB3 := HB3n
    clear HB3n
    clear b1
    have RW : Hid (RowW w6 w2.heap.size A7 n S1) := Lib.hid ((own_rw HCA.out.own).below HB3.out)
    have HWE : Hid (∀ y, y ∈ S1 → HopW w6 w2.heap.size y) := Lib.hid (fun y hy => ((HCA.out.hop y hy).w).below HB3.out)
    have HLA : Hid (∀ b o, A7 = some ⟨b, o, none⟩ → 0 < n → b < w3.heap.size) := Lib.hid (own_lo HCA.out.own (rxB_recs _))
    have HLH : Hid (∀ y, y ∈ S1 → ∀ b o, y.A = some ⟨b, o, none⟩ → 0 < y.r.n → b < w3.heap.size) := Lib.hid (fun y hy => (HCA.out.hop y hy).lo)
    have HBX : Hid (Below w2.heap.size w2 w6) := Lib.hid (HC2.out.trans (HB3.out.mono HC2.out.size))
    have KPM := Lib.hid (Kp.refl (List.range w3.heap.size) w6)
    have hnI : (n : Int) ≤ 9223372036854775807 := by have := HN.out; omega
    go_wp2_with fail
    go_loopw [60] (fun t wr => ∃ j : Nat, j ≤ n ∧ t = .int .i64 j ∧ Hid (RowW wr w2.heap.size A7 n S1) ∧ Hid (∀ y, y ∈ S1 → HopW wr w2.heap.size y) ∧ Hid (Below w2.heap.size w2 wr) ∧ Hid (Kp (List.range w3.heap.size) w6 wr) ∧ Hid (Blk 23 wr NK5 (agC zz))) (fun t _ => n - (intOf t).toNat)
    case atStart => exact ⟨0, by omega, rfl, RW, HWE, HBX, KPM, K5⟩
    case round =>
      obtain ⟨i, hi, rfl, rrw, rhwe, rhbx, rkpm, rk5⟩ := hrel
      clear RW HWE HBX KPM K5
      have RW := rrw
      have HWE := rhwe
      have HBX := rhbx
      have KPM := rkpm
      have K5 := rk5
      clear rrw rhwe rhbx rkpm rk5
      by_cases hin : i < n
      · have HIN := Lib.hid hin
        have hii : (i : Int) < (n : Int) := by omega
        have hi0 : (0 : Int) ≤ (i : Int) := by omega
        clear hin hi
        obtain ⟨y, hy⟩ : ∃ y, S1.getD i rx0 = y := ⟨_, rfl⟩
        have HY := Lib.hid (hy)
        have HYM : Hid (y ∈ S1) := Lib.hid (by rw [← hy]; exact S_mem HCA.out.len HIN.out)
        have hyI : (y.r.n : Int) ≤ 9223372036854775807 := by have h9 := (HCA.out.hop y HYM.out).2; omega
        clear hy
        obtain ⟨gr, cr, eA, hBr, hbr, hsr, hzr⟩ := RW.out (by have := HIN.out; omega)
        obtain ⟨⟨um, hum⟩, hsl⟩ := hzr i HIN.out
        rw [HY.out] at hsl
        have c19 : wr.cell? ⟨gr, i * 21 + 19, none⟩ = some (.int .u32 um) := cell_blk hbr hum
        have HBR := Lib.hid (hbr)
        have HGB := Lib.hid (hBr)
        have HSZ : Hid (i * 21 + 19 + 1 ≤ cr.size) := Lib.hid (by have := HIN.out; omega)
        have HGM : Hid (gr ∈ List.range w3.heap.size) := Lib.hid (List.mem_range.2 (HLA.out gr 0 eA (by have := HIN.out; omega)))
        have HEA := Lib.hid (eA)
        have HEA2 := eA
        clear hBr hbr hsr hzr hum hsl eA
        obtain ⟨xz, hxz⟩ : ∃ xz : Int, bits .xor .u32 um 1 = xz := ⟨_, rfl⟩
        have HXZ := Lib.hid (hxz)
        clear hxz
        subst HEA2
        go_wp2_with (refine wpList_v (op := ⟨some 68, _, _, _, _, _⟩) rfl (.int .u32 xz) (by rw [← HXZ.out]; exact xoru_run _ _ rfl um rfl rfl _) ?_; refine Hid.out ?_)
        refine Lib.hid ?_
        go_wp2_with (refine wpList_st rfl 67 (.tmp 70) (.tmp 68) rfl gr (i * 21 + 19) rfl (.int .u32 xz) (#[.int .u32 xz]) rfl rfl info_u4 (u32_one _) HBR.out HSZ.out (C' := putMany cr (i * 21 + 19) [.int .u32 xz]) rfl ?_; intro wq q1; refine Hid.out ?_)
        refine Lib.hid ?_
        have RWn := Lib.hid (RW.out.put rfl HBR.out q1)
        have HWEn := Lib.hid (fun y hy => (HWE.out y hy).row HBR.out q1)
        have HBXn := Lib.hid (HBX.out.trans (q1.2.1 _ HGB.out))
        have KPMn := Lib.hid (KPM.out.st q1 (.inl HGM.out))
        have K5n := Lib.hid (K5.out.farN HBR.out (by decide) q1)
        clear RW HWE HBX KPM K5 q1 c19 HBR
        have RW := RWn
        clear RWn
        have HWE := HWEn
        clear HWEn
        have HBX := HBXn
        clear HBXn
        have KPM := KPMn
        clear KPMn
        have K5 := K5n
        clear K5n
        obtain ⟨g2, c2_, eA, _, hbr, _, hzr⟩ := RW.out (by have := HIN.out; omega)
        cases eA
        have hsl := (hzr i HIN.out).2
        rw [HY.out] at hsl
        have c20 : wq.cell? ⟨gr, i * 21 + 20, none⟩ = some (.slice y.A y.r.n y.c) := cell_blk hbr hsl
        clear hbr hzr hsl
        go_wp2_with fail
        clear c20
        go_loopw [77] (fun t wr => ∃ j : Nat, j ≤ y.r.n ∧ t = .int .i64 j ∧ Hid (RowW wr w2.heap.size (some ⟨gr, 0, none⟩) n S1) ∧ Hid (∀ y, y ∈ S1 → HopW wr w2.heap.size y) ∧ Hid (Below w2.heap.size w2 wr) ∧ Hid (Kp (List.range w3.heap.size) w6 wr) ∧ Hid (Blk 23 wr NK5 (agC zz))) (fun t _ => y.r.n - (intOf t).toNat)
        case atStart => exact ⟨0, by omega, rfl, RW, HWE, HBX, KPM, K5⟩
        case round =>
          obtain ⟨j, hj, rfl, rrw, rhwe, rhbx, rkpm, rk5⟩ := hrel
          clear RW HWE HBX KPM K5
          have RW := rrw
          have HWE := rhwe
          have HBX := rhbx
          have KPM := rkpm
          have K5 := rk5
          clear rrw rhwe rhbx rkpm rk5
          by_cases hjn : j < y.r.n
          · have HJN := Lib.hid hjn
            have hjj : (j : Int) < (y.r.n : Int) := by omega
            have hj0 : (0 : Int) ≤ (j : Int) := by omega
            clear hjn hj
            obtain ⟨gg, cur, hA, hBg, hblk, hsz, hzz⟩ := HWE.out y HYM.out (by have := HJN.out; omega)
            obtain ⟨z, hz⟩ := hzz j HJN.out
            have HBLK := Lib.hid hblk
            have HSZ2 : Hid (j * 7 + 1 ≤ cur.size) := Lib.hid (by have := HJN.out; omega)
            have HBG := Lib.hid (hBg)
            have HGM2 : Hid (gg ∈ List.range w3.heap.size) := Lib.hid (List.mem_range.2 (HLH.out y HYM.out gg 0 hA (by have := HJN.out; omega)))
            have cz : wr.cell? ⟨gg, j * 7, none⟩ = some (.int .i64 z) := cell_blk hblk hz
            clear hBg hblk hsz hzz hz
            obtain ⟨g2, c2_, eA, _, hbr, _, hzr⟩ := RW.out (by have := HIN.out; omega)
            cases eA
            have hsl := (hzr i HIN.out).2
            rw [HY.out, hA] at hsl
            have c20 : wr.cell? ⟨gr, i * 21 + 20, none⟩ = some (.slice (some ⟨gg, 0, none⟩) y.r.n y.c) := cell_blk hbr hsl
            clear hbr hzr hsl hA
            obtain ⟨xh, hxh⟩ : ∃ xz : Int, bits .xor .i64 z 1 = xz := ⟨_, rfl⟩
            have HXH := Lib.hid (hxh)
            clear hxh
            go_wp2_with (refine wpList_v (op := ⟨some 89, _, _, _, _, _⟩) rfl (.int .i64 xh) (by rw [← HXH.out]; exact xor1_run _ _ rfl z rfl rfl _) ?_; refine Hid.out ?_)
            refine Lib.hid ?_
            go_wp2_with (refine wpList_st rfl 3 (.tmp 91) (.tmp 89) rfl gg (j * 7) rfl (.int .i64 xh) (#[.int .i64 xh]) rfl rfl info_in (hp_one _) HBLK.out HSZ2.out (C' := putMany cur (j * 7) [.int .i64 xh]) rfl ?_; intro wq2 q1; refine Hid.out ?_)
            refine Lib.hid ?_
            have RWn := Lib.hid (RW.out.hop HBLK.out q1)
            have HWEn := Lib.hid (fun y hy => (HWE.out y hy).put HBLK.out q1)
            have HBXn := Lib.hid (HBX.out.trans (q1.2.1 _ HBG.out))
            have KPMn := Lib.hid (KPM.out.st q1 (.inl HGM2.out))
            have K5n := Lib.hid (K5.out.farN HBLK.out (by decide) q1)
            clear RW HWE HBX KPM K5 q1 c20 cz HBLK
            go_wp2_with fail
            go_roundw
            case rel => exact ⟨j + 1, HJN.out, by go_num, RWn, HWEn, HBXn, KPMn, K5n⟩
            case measure => have := HJN.out; simp only [intOf]; omega
          · obtain hje : j = y.r.n := by omega
            subst hje
            clear hj hjn
            go_wp2_with fail
            go_roundw
            case rel => exact ⟨i + 1, HIN.out, by go_num, RW, HWE, HBX, KPM, K5⟩
            case measure => have := HIN.out; simp only [intOf]; omega
      · obtain hie : n = i := by omega
        subst hie
        clear hi hin
        obtain ⟨w7, hw7⟩ : ∃ x : World, x = wr := ⟨_, rfl⟩
        subst hw7
        clear HB
        have HB := Lib.hid (HB2.out.trans (HBX.out.mono HB2.out.size))
        by_cases hfm : a1 ≠ 4 ∧ a1 ≠ 6
        · have hf1 : (a1 != 4) = true := by simpa using hfm.1
          have hf2 : (a1 != 6) = true := by simpa using hfm.2
          have hfn : fN a1 = 1 := by unfold fN; rw [if_neg (by omega)]
          go_wp2_with (refine wpList_ld (op := ⟨some 97, _, _, _, _, _⟩) (by rfl) 23 (.tmp 5) rfl NK5 (0) rfl (agC zz) _ K5.out.all Try.underlying23 rfl (hi_ag zz) ?_; refine Hid.out ?_)
          refine Lib.hid ?_
          go_wp2_with fail
          refine ((show Calls Try.prog 34 #[.pointer none, .int .u8 a1, .agg (agC zz)] w7 _ from by have h := tfind_nil a1 zz HX2.out w7; rw [hfn] at h; exact h)).mono ?_
          rintro e w8 ⟨rfl, b1⟩
          have HBn := Lib.hid (HB.out.trans (b1.mono HB.out.size))
          clear HB
          have HB := HBn
          clear HBn
          have K5n := Lib.hid (K5.out.below b1 K5.out.lt)
          clear K5
          have K5 := K5n
          clear K5n
          clear b1
          obtain ⟨NK13, hNK13⟩ : ∃ N, w8.heap.size = N := ⟨_, rfl⟩
          have HNK13 := Lib.hid hNK13
          clear hNK13
          go_wp2_with (refine wpList_new (op := ⟨some 13, _, _, _, _, _⟩) rfl 70 rfl (rxC rx0) zero_rt NK13 HNK13.out ?_; intro w9 k1 b1 s1; refine Hid.out ?_)
          refine Lib.hid ?_
          have KX := Lib.hid k1
          have BX := Lib.hid b1
          clear k1 b1 s1
          go_wp2_with (refine wpList_st rfl 70 (.tmp 13) (.tmp 99) rfl NK13 0 rfl (.agg (rxC rx0)) (rxC rx0) rfl rfl info_rt (rx_one _) KX.out (Nat.le_of_ble_eq_true rfl) (C' := rxC rx0) (rx_over _ _) ?_; intro w10 q1; refine Hid.out ?_)
          refine Lib.hid ?_
          have b1 : Below w8.heap.size w8 w10 := BX.out.trans (q1.2.1 _ (by rw [HNK13.out]; exact Nat.le_refl _))
          have HBn := Lib.hid (HB.out.trans (b1.mono HB.out.size))
          clear HB
          have HB := HBn
          clear HBn
          have K5n := Lib.hid (K5.out.below b1 K5.out.lt)
          clear K5
          have K5 := K5n
          clear K5n
          have K13 : Hid (Blk 70 w10 NK13 (rxC rx0)) := Lib.hid q1.1
          clear KX BX q1 b1 HNK13
          go_wp2_with (refine wpList_ld (op := ⟨some 115, _, _, _, _, _⟩) (by rfl) 70 (.tmp 13) rfl NK13 (0) rfl (rxC rx0) _ K13.out.all Try.underlying70 rfl info_rt ?_; refine Hid.out ?_)
          refine Lib.hid ?_
          go_wp2_with (refine wpList_gv (op := ⟨some 116, _, _, _, _, _⟩) (.agg (rxC rx0)) (by rfl) (bld_rt0 _ _ rfl _) ?_; refine Hid.out ?_)
          refine Lib.hid ?_
          go_wp2_with fail
          refine (sameRoute_r rfl rx0_b (rx0_at _) (rx0_at _)).mono ?_
          rintro e w11 ⟨rfl, b1⟩
          have HBn := Lib.hid (HB.out.trans (b1.mono HB.out.size))
          clear HB
          have HB := HBn
          clear HBn
          have K5n := Lib.hid (K5.out.below b1 K5.out.lt)
          clear K5
          have K5 := K5n
          clear K5n
          have K13n := Lib.hid (K13.out.below b1 K13.out.lt)
          clear K13
          have K13 := K13n
          clear K13n
          clear b1
          go_wp2
          first | (go_ret; exact ⟨rfl, HB.out⟩) | exact ⟨.bool true, by simp [results, Try.f8, go_sem], rfl, HB.out⟩ | exact bodyPost_ret (v := .bool true) (by simp [results, Try.f8, go_sem]) rfl ⟨rfl, HB.out⟩
        · rcases (by omega : a1 = 4 ∨ a1 = 6) with rfl | rfl
          · skip
            have hfn : fN 4 = 6 := by decide
            go_wp2_with (refine wpList_ld (op := ⟨some 97, _, _, _, _, _⟩) (by rfl) 23 (.tmp 5) rfl NK5 (0) rfl (agC zz) _ K5.out.all Try.underlying23 rfl (hi_ag zz) ?_; refine Hid.out ?_)
            refine Lib.hid ?_
            go_wp2_with fail
            refine ((show Calls Try.prog 34 #[.pointer none, .int .u8 4, .agg (agC zz)] w7 _ from by have h := tfind_nil 4 zz HX2.out w7; rw [hfn] at h; exact h)).mono ?_
            rintro e w8 ⟨rfl, b1⟩
            have HBn := Lib.hid (HB.out.trans (b1.mono HB.out.size))
            clear HB
            have HB := HBn
            clear HBn
            have K5n := Lib.hid (K5.out.below b1 K5.out.lt)
            clear K5
            have K5 := K5n
            clear K5n
            clear b1
            obtain ⟨NK13, hNK13⟩ : ∃ N, w8.heap.size = N := ⟨_, rfl⟩
            have HNK13 := Lib.hid hNK13
            clear hNK13
            go_wp2_with (refine wpList_new (op := ⟨some 13, _, _, _, _, _⟩) rfl 70 rfl (rxC rx0) zero_rt NK13 HNK13.out ?_; intro w9 k1 b1 s1; refine Hid.out ?_)
            refine Lib.hid ?_
            have KX := Lib.hid k1
            have BX := Lib.hid b1
            clear k1 b1 s1
            go_wp2_with (refine wpList_st rfl 70 (.tmp 13) (.tmp 99) rfl NK13 0 rfl (.agg (rxC rx0)) (rxC rx0) rfl rfl info_rt (rx_one _) KX.out (Nat.le_of_ble_eq_true rfl) (C' := rxC rx0) (rx_over _ _) ?_; intro w10 q1; refine Hid.out ?_)
            refine Lib.hid ?_
            have b1 : Below w8.heap.size w8 w10 := BX.out.trans (q1.2.1 _ (by rw [HNK13.out]; exact Nat.le_refl _))
            have HBn := Lib.hid (HB.out.trans (b1.mono HB.out.size))
            clear HB
            have HB := HBn
            clear HBn
            have K5n := Lib.hid (K5.out.below b1 K5.out.lt)
            clear K5
            have K5 := K5n
            clear K5n
            have K13 : Hid (Blk 70 w10 NK13 (rxC rx0)) := Lib.hid q1.1
            clear KX BX q1 b1 HNK13
            go_wp2_with (refine wpList_ld (op := ⟨some 128, _, _, _, _, _⟩) (by rfl) 70 (.tmp 13) rfl NK13 (0) rfl (rxC rx0) _ K13.out.all Try.underlying70 rfl info_rt ?_; refine Hid.out ?_)
            refine Lib.hid ?_
            go_wp2_with (refine wpList_gv (op := ⟨some 129, _, _, _, _, _⟩) (.agg (rxC rx0)) (by rfl) (bld_rt0 _ _ rfl _) ?_; refine Hid.out ?_)
            refine Lib.hid ?_
            go_wp2_with fail
            refine (sameRoute_r rfl rx0_b (rx0_at _) (rx0_at _)).mono ?_
            rintro e w11 ⟨rfl, b1⟩
            have HBn := Lib.hid (HB.out.trans (b1.mono HB.out.size))
            clear HB
            have HB := HBn
            clear HBn
            have K5n := Lib.hid (K5.out.below b1 K5.out.lt)
            clear K5
            have K5 := K5n
            clear K5n
            have K13n := Lib.hid (K13.out.below b1 K13.out.lt)
            clear K13
            have K13 := K13n
            clear K13n
            clear b1
            go_wp2_with fail
            refine (tlistR_nil _).mono ?_
            rintro e w12 ⟨rfl, rfl⟩
            go_wp2
            first | (go_ret; exact ⟨rfl, HB.out⟩) | exact ⟨.bool true, by simp [results, Try.f8, go_sem], rfl, HB.out⟩ | exact bodyPost_ret (v := .bool true) (by simp [results, Try.f8, go_sem]) rfl ⟨rfl, HB.out⟩
          · skip
            have hfn : fN 6 = 6 := by decide
            go_wp2_with (refine wpList_ld (op := ⟨some 97, _, _, _, _, _⟩) (by rfl) 23 (.tmp 5) rfl NK5 (0) rfl (agC zz) _ K5.out.all Try.underlying23 rfl (hi_ag zz) ?_; refine Hid.out ?_)
            refine Lib.hid ?_
            go_wp2_with fail
            refine ((show Calls Try.prog 34 #[.pointer none, .int .u8 6, .agg (agC zz)] w7 _ from by have h := tfind_nil 6 zz HX2.out w7; rw [hfn] at h; exact h)).mono ?_
            rintro e w8 ⟨rfl, b1⟩
            have HBn := Lib.hid (HB.out.trans (b1.mono HB.out.size))
            clear HB
            have HB := HBn
            clear HBn
            have K5n := Lib.hid (K5.out.below b1 K5.out.lt)
            clear K5
            have K5 := K5n
            clear K5n
            clear b1
            obtain ⟨NK13, hNK13⟩ : ∃ N, w8.heap.size = N := ⟨_, rfl⟩
            have HNK13 := Lib.hid hNK13
            clear hNK13
            go_wp2_with (refine wpList_new (op := ⟨some 13, _, _, _, _, _⟩) rfl 70 rfl (rxC rx0) zero_rt NK13 HNK13.out ?_; intro w9 k1 b1 s1; refine Hid.out ?_)
            refine Lib.hid ?_
            have KX := Lib.hid k1
            have BX := Lib.hid b1
            clear k1 b1 s1
            go_wp2_with (refine wpList_st rfl 70 (.tmp 13) (.tmp 99) rfl NK13 0 rfl (.agg (rxC rx0)) (rxC rx0) rfl rfl info_rt (rx_one _) KX.out (Nat.le_of_ble_eq_true rfl) (C' := rxC rx0) (rx_over _ _) ?_; intro w10 q1; refine Hid.out ?_)
            refine Lib.hid ?_
            have b1 : Below w8.heap.size w8 w10 := BX.out.trans (q1.2.1 _ (by rw [HNK13.out]; exact Nat.le_refl _))
            have HBn := Lib.hid (HB.out.trans (b1.mono HB.out.size))
            clear HB
            have HB := HBn
            clear HBn
            have K5n := Lib.hid (K5.out.below b1 K5.out.lt)
            clear K5
            have K5 := K5n
            clear K5n
            have K13 : Hid (Blk 70 w10 NK13 (rxC rx0)) := Lib.hid q1.1
            clear KX BX q1 b1 HNK13
            go_wp2_with (refine wpList_ld (op := ⟨some 128, _, _, _, _, _⟩) (by rfl) 70 (.tmp 13) rfl NK13 (0) rfl (rxC rx0) _ K13.out.all Try.underlying70 rfl info_rt ?_; refine Hid.out ?_)
            refine Lib.hid ?_
            go_wp2_with (refine wpList_gv (op := ⟨some 129, _, _, _, _, _⟩) (.agg (rxC rx0)) (by rfl) (bld_rt0 _ _ rfl _) ?_; refine Hid.out ?_)
            refine Lib.hid ?_
            go_wp2_with fail
            refine (sameRoute_r rfl rx0_b (rx0_at _) (rx0_at _)).mono ?_
            rintro e w11 ⟨rfl, b1⟩
            have HBn := Lib.hid (HB.out.trans (b1.mono HB.out.size))
            clear HB
            have HB := HBn
            clear HBn
            have K5n := Lib.hid (K5.out.below b1 K5.out.lt)
            clear K5
            have K5 := K5n
            clear K5n
            have K13n := Lib.hid (K13.out.below b1 K13.out.lt)
            clear K13
            have K13 := K13n
            clear K13n
            clear b1
            go_wp2_with fail
            refine (tlistR_nil _).mono ?_
            rintro e w12 ⟨rfl, rfl⟩
            go_wp2
            first | (go_ret; exact ⟨rfl, HB.out⟩) | exact ⟨.bool true, by simp [results, Try.f8, go_sem], rfl, HB.out⟩ | exact bodyPost_ret (v := .bool true) (by simp [results, Try.f8, go_sem]) rfl ⟨rfl, HB.out⟩
  · have HX1 : Hid (ErrX n L0 0) := Lib.hid (hx1.congr HCA.out.same)
    have HTB := Lib.hid htb
    have HPM : Hid (PermX n L0 S) := Lib.hid (hpm.congr HCA.out.same)
    have HAC := Lib.hid hac
    have HHI := Lib.hid hhi
    clear hx1 htb hpm hac hhi
    have HB4 := Lib.hid (Below.refl w4.heap.size w4)
    go_wp2_with fail
    refine (rerr_any L0 a0 n cap0 w4 (HRR.out _ HB.out).1 HRB.out HC0.out (by have := HN.out; omega)).mono ?_
    rintro e w5 ⟨b1, er, hx2, rfl⟩
    have HBn := Lib.hid (HB.out.trans (b1.mono HB.out.size))
    clear HB
    have HB := HBn
    clear HBn
    have K5n := Lib.hid (K5.out.below b1 K5.out.lt)
    clear K5
    have K5 := K5n
    clear K5n
    have HB3n := Lib.hid (HB3.out.trans (b1.mono HB3.out.size))
    clear HB3
    have HB3 := HB3n
    clear HB3n
    have HB4n := Lib.hid (HB4.out.trans (b1.mono HB4.out.size))
    clear HB4
    have HB4 := HB4n
    clear HB4n
    have HTBn := Lib.hid (HTB.out.below b1)
    clear HTB
    have HTB := HTBn
    clear HTBn
    clear b1
    obtain rfl : er = 0 := hx2.uniq HX1.out
    clear hx2
    go_wp2_with fail
    refine (same_any (fun j => S1.getD j rx0) L0 A7 a0 n c7 cap0 w5 (HR7.out.below HB3.out rfl) (HRR.out _ HB.out).1 (fun j hj => HCA.out.same j hj) (fun j hj => by rw [HCA.out.same j hj]; exact HRB.out j) (fun j hj => ((HCA.out.hop _ (S_mem HCA.out.len hj)).at).below HB3.out) (HRR.out _ HB.out).2 (by have := HN.out; omega)).mono ?_
    rintro e w6 ⟨rfl, b1⟩
    have HBn := Lib.hid (HB.out.trans (b1.mono HB.out.size))
    clear HB
    have HB := HBn
    clear HBn
    have K5n := Lib.hid (K5.out.below b1 K5.out.lt)
    clear K5
    have K5 := K5n
    clear K5n
    have HB3n := Lib.hid (HB3.out.trans (b1.mono HB3.out.size))
    clear HB3
    have HB3 := HB3n
    clear HB3n
    have HB4n := Lib.hid (HB4.out.trans (b1.mono HB4.out.size))
    clear HB4
    have HB4 := HB4n
    clear HB4n
    have HTBn := Lib.hid (HTB.out.below b1)
    clear HTB
    have HTB := HTBn
    clear HTBn
    clear b1
    have HH6 : Hid (HiT w6 w3.heap.size tt ss A n S) := Lib.hid ⟨HHI.out.t, HHI.out.s, HHI.out.row, fun y hy => (HHI.out.hop y hy).below HB4.out⟩
    have HTB6 := HTB
    have RW : Hid (RowW w6 w2.heap.size A7 n S1) := Lib.hid ((own_rw HCA.out.own).below HB3.out)
    have HWE : Hid (∀ y, y ∈ S1 → HopW w6 w2.heap.size y) := Lib.hid (fun y hy => ((HCA.out.hop y hy).w).below HB3.out)
    have HLA : Hid (∀ b o, A7 = some ⟨b, o, none⟩ → 0 < n → b < w3.heap.size) := Lib.hid (own_lo HCA.out.own (rxB_recs _))
    have HLH : Hid (∀ y, y ∈ S1 → ∀ b o, y.A = some ⟨b, o, none⟩ → 0 < y.r.n → b < w3.heap.size) := Lib.hid (fun y hy => (HCA.out.hop y hy).lo)
    have HBX : Hid (Below w2.heap.size w2 w6) := Lib.hid (HC2.out.trans (HB3.out.mono HC2.out.size))
    have KPM := Lib.hid (Kp.refl (List.range w3.heap.size) w6)
    have hnI : (n : Int) ≤ 9223372036854775807 := by have := HN.out; omega
    go_wp2_with fail
    go_loopw [60] (fun t wr => ∃ j : Nat, j ≤ n ∧ t = .int .i64 j ∧ Hid (RowW wr w2.heap.size A7 n S1) ∧ Hid (∀ y, y ∈ S1 → HopW wr w2.heap.size y) ∧ Hid (Below w2.heap.size w2 wr) ∧ Hid (Kp (List.range w3.heap.size) w6 wr) ∧ Hid (Blk 23 wr NK5 (agC zz))) (fun t _ => n - (intOf t).toNat)
    case atStart => exact ⟨0, by omega, rfl, RW, HWE, HBX, KPM, K5⟩
    case round =>
      obtain ⟨i, hi, rfl, rrw, rhwe, rhbx, rkpm, rk5⟩ := hrel
      clear RW HWE HBX KPM K5
      have RW := rrw
      have HWE := rhwe
      have HBX := rhbx
      have KPM := rkpm
      have K5 := rk5
      clear rrw rhwe rhbx rkpm rk5
      by_cases hin : i < n
      · have HIN := Lib.hid hin
        have hii : (i : Int) < (n : Int) := by omega
        have hi0 : (0 : Int) ≤ (i : Int) := by omega
        clear hin hi
        obtain ⟨y, hy⟩ : ∃ y, S1.getD i rx0 = y := ⟨_, rfl⟩
        have HY := Lib.hid (hy)
        have HYM : Hid (y ∈ S1) := Lib.hid (by rw [← hy]; exact S_mem HCA.out.len HIN.out)
        have hyI : (y.r.n : Int) ≤ 9223372036854775807 := by have h9 := (HCA.out.hop y HYM.out).2; omega
        clear hy
        obtain ⟨gr, cr, eA, hBr, hbr, hsr, hzr⟩ := RW.out (by have := HIN.out; omega)
        obtain ⟨⟨um, hum⟩, hsl⟩ := hzr i HIN.out
        rw [HY.out] at hsl
        have c19 : wr.cell? ⟨gr, i * 21 + 19, none⟩ = some (.int .u32 um) := cell_blk hbr hum
        have HBR := Lib.hid (hbr)
        have HGB := Lib.hid (hBr)
        have HSZ : Hid (i * 21 + 19 + 1 ≤ cr.size) := Lib.hid (by have := HIN.out; omega)
        have HGM : Hid (gr ∈ List.range w3.heap.size) := Lib.hid (List.mem_range.2 (HLA.out gr 0 eA (by have := HIN.out; omega)))
        have HEA := Lib.hid (eA)
        have HEA2 := eA
        clear hBr hbr hsr hzr hum hsl eA
        obtain ⟨xz, hxz⟩ : ∃ xz : Int, bits .xor .u32 um 1 = xz := ⟨_, rfl⟩
        have HXZ := Lib.hid (hxz)
        clear hxz
        subst HEA2
        go_wp2_with (refine wpList_v (op := ⟨some 68, _, _, _, _, _⟩) rfl (.int .u32 xz) (by rw [← HXZ.out]; exact xoru_run _ _ rfl um rfl rfl _) ?_; refine Hid.out ?_)
        refine Lib.hid ?_
        go_wp2_with (refine wpList_st rfl 67 (.tmp 70) (.tmp 68) rfl gr (i * 21 + 19) rfl (.int .u32 xz) (#[.int .u32 xz]) rfl rfl info_u4 (u32_one _) HBR.out HSZ.out (C' := putMany cr (i * 21 + 19) [.int .u32 xz]) rfl ?_; intro wq q1; refine Hid.out ?_)
        refine Lib.hid ?_
        have RWn := Lib.hid (RW.out.put rfl HBR.out q1)
        have HWEn := Lib.hid (fun y hy => (HWE.out y hy).row HBR.out q1)
        have HBXn := Lib.hid (HBX.out.trans (q1.2.1 _ HGB.out))
        have KPMn := Lib.hid (KPM.out.st q1 (.inl HGM.out))
        have K5n := Lib.hid (K5.out.farN HBR.out (by decide) q1)
        clear RW HWE HBX KPM K5 q1 c19 HBR
        have RW := RWn
        clear RWn
        have HWE := HWEn
        clear HWEn
        have HBX := HBXn
        clear HBXn
        have KPM := KPMn
        clear KPMn
        have K5 := K5n
        clear K5n
        obtain ⟨g2, c2_, eA, _, hbr, _, hzr⟩ := RW.out (by have := HIN.out; omega)
        cases eA
        have hsl := (hzr i HIN.out).2
        rw [HY.out] at hsl
        have c20 : wq.cell? ⟨gr, i * 21 + 20, none⟩ = some (.slice y.A y.r.n y.c) := cell_blk hbr hsl
        clear hbr hzr hsl
        go_wp2_with fail
        clear c20
        go_loopw [77] (fun t wr => ∃ j : Nat, j ≤ y.r.n ∧ t = .int .i64 j ∧ Hid (RowW wr w2.heap.size (some ⟨gr, 0, none⟩) n S1) ∧ Hid (∀ y, y ∈ S1 → HopW wr w2.heap.size y) ∧ Hid (Below w2.heap.size w2 wr) ∧ Hid (Kp (List.range w3.heap.size) w6 wr) ∧ Hid (Blk 23 wr NK5 (agC zz))) (fun t _ => y.r.n - (intOf t).toNat)
        case atStart => exact ⟨0, by omega, rfl, RW, HWE, HBX, KPM, K5⟩
        case round =>
          obtain ⟨j, hj, rfl, rrw, rhwe, rhbx, rkpm, rk5⟩ := hrel
          clear RW HWE HBX KPM K5
          have RW := rrw
          have HWE := rhwe
          have HBX := rhbx
          have KPM := rkpm
          have K5 := rk5
          clear rrw rhwe rhbx rkpm rk5
          by_cases hjn : j < y.r.n
          · have HJN := Lib.hid hjn
            have hjj : (j : Int) < (y.r.n : Int) := by omega
            have hj0 : (0 : Int) ≤ (j : Int) := by omega
            clear hjn hj
            obtain ⟨gg, cur, hA, hBg, hblk, hsz, hzz⟩ := HWE.out y HYM.out (by have := HJN.out; omega)
            obtain ⟨z, hz⟩ := hzz j HJN.out
            have HBLK := Lib.hid hblk
            have HSZ2 : Hid (j * 7 + 1 ≤ cur.size) := Lib.hid (by have := HJN.out; omega)
            have HBG := Lib.hid (hBg)
            have HGM2 : Hid (gg ∈ List.range w3.heap.size) := Lib.hid (List.mem_range.2 (HLH.out y HYM.out gg 0 hA (by have := HJN.out; omega)))
            have cz : wr.cell? ⟨gg, j * 7, none⟩ = some (.int .i64 z) := cell_blk hblk hz
            clear hBg hblk hsz hzz hz
            obtain ⟨g2, c2_, eA, _, hbr, _, hzr⟩ := RW.out (by have := HIN.out; omega)
            cases eA
            have hsl := (hzr i HIN.out).2
            rw [HY.out, hA] at hsl
            have c20 : wr.cell? ⟨gr, i * 21 + 20, none⟩ = some (.slice (some ⟨gg, 0, none⟩) y.r.n y.c) := cell_blk hbr hsl
            clear hbr hzr hsl hA
            obtain ⟨xh, hxh⟩ : ∃ xz : Int, bits .xor .i64 z 1 = xz := ⟨_, rfl⟩
            have HXH := Lib.hid (hxh)
            clear hxh
            go_wp2_with (refine wpList_v (op := ⟨some 89, _, _, _, _, _⟩) rfl (.int .i64 xh) (by rw [← HXH.out]; exact xor1_run _ _ rfl z rfl rfl _) ?_; refine Hid.out ?_)
            refine Lib.hid ?_
            go_wp2_with (refine wpList_st rfl 3 (.tmp 91) (.tmp 89) rfl gg (j * 7) rfl (.int .i64 xh) (#[.int .i64 xh]) rfl rfl info_in (hp_one _) HBLK.out HSZ2.out (C' := putMany cur (j * 7) [.int .i64 xh]) rfl ?_; intro wq2 q1; refine Hid.out ?_)
            refine Lib.hid ?_
            have RWn := Lib.hid (RW.out.hop HBLK.out q1)
            have HWEn := Lib.hid (fun y hy => (HWE.out y hy).put HBLK.out q1)
            have HBXn := Lib.hid (HBX.out.trans (q1.2.1 _ HBG.out))
            have KPMn := Lib.hid (KPM.out.st q1 (.inl HGM2.out))
            have K5n := Lib.hid (K5.out.farN HBLK.out (by decide) q1)
            clear RW HWE HBX KPM K5 q1 c20 cz HBLK
            go_wp2_with fail
            go_roundw
            case rel => exact ⟨j + 1, HJN.out, by go_num, RWn, HWEn, HBXn, KPMn, K5n⟩
            case measure => have := HJN.out; simp only [intOf]; omega
          · obtain hje : j = y.r.n := by omega
            subst hje
            clear hj hjn
            go_wp2_with fail
            go_roundw
            case rel => exact ⟨i + 1, HIN.out, by go_num, RW, HWE, HBX, KPM, K5⟩
            case measure => have := HIN.out; simp only [intOf]; omega
      · obtain hie : n = i := by omega
        subst hie
        clear hi hin
        obtain ⟨w7, hw7⟩ : ∃ x : World, x = wr := ⟨_, rfl⟩
        subst hw7
        clear HB
        have HB := Lib.hid (HB2.out.trans (HBX.out.mono HB2.out.size))
        clear HTB
        have HTB := Lib.hid (HTB6.out.kpM HH6.out KPM.out)
        clear HTB6 RW HWE HBX KPM HH6 HHI HB3 HB4
        have K57 := K5
        have HBW := HB
        have HTW := HTB
        have HBL := Lib.hid (Below.refl w7.heap.size w7)
        go_wp2_with (refine wpList_ld (op := ⟨some 97, _, _, _, _, _⟩) (by rfl) 23 (.tmp 5) rfl NK5 (0) rfl (agC zz) _ K5.out.all Try.underlying23 rfl (hi_ag zz) ?_; refine Hid.out ?_)
        refine Lib.hid ?_
        go_wp2_with fail
        refine (tfind_any tt ss n A c S T a1 zz HX2.out w7 HTB.out).mono ?_
        intro e w8 h9
        have b1 := h9.1
        obtain ⟨bq, y1, er1, rfl, hat, hww, hfd⟩ := tfind_e h9
        have HBn := Lib.hid (HB.out.trans (b1.mono HB.out.size))
        clear HB
        have HB := HBn
        clear HBn
        have K5n := Lib.hid (K5.out.below b1 K5.out.lt)
        clear K5
        have K5 := K5n
        clear K5n
        have HTBn := Lib.hid (HTB.out.below b1)
        clear HTB
        have HTB := HTBn
        clear HTBn
        have HBLn := Lib.hid (HBL.out.trans (b1.mono HBL.out.size))
        clear HBL
        have HBL := HBLn
        clear HBLn
        clear b1 h9
        have HAy1 := Lib.hid (hat)
        have HWy1 := Lib.hid (hww)
        have HFy1 := Lib.hid (hfd)
        clear hat hww hfd
        obtain ⟨NK13, hNK13⟩ : ∃ N, w8.heap.size = N := ⟨_, rfl⟩
        have HNK13 := Lib.hid hNK13
        clear hNK13
        go_wp2_with (refine wpList_new (op := ⟨some 13, _, _, _, _, _⟩) rfl 70 rfl (rxC rx0) zero_rt NK13 HNK13.out ?_; intro w9 k1 b1 s1; refine Hid.out ?_)
        refine Lib.hid ?_
        have KX := Lib.hid k1
        have BX := Lib.hid b1
        clear k1 b1 s1
        go_wp2_with (refine wpList_st rfl 70 (.tmp 13) (.tmp 99) rfl NK13 0 rfl (.agg (rxC y1)) (rxC y1) rfl rfl info_rt (rx_one _) KX.out (Nat.le_of_ble_eq_true rfl) (C' := rxC y1) (rx_over _ _) ?_; intro w10 q1; refine Hid.out ?_)
        refine Lib.hid ?_
        have b1 : Below w8.heap.size w8 w10 := BX.out.trans (q1.2.1 _ (by rw [HNK13.out]; exact Nat.le_refl _))
        have HBn := Lib.hid (HB.out.trans (b1.mono HB.out.size))
        clear HB
        have HB := HBn
        clear HBn
        have K5n := Lib.hid (K5.out.below b1 K5.out.lt)
        clear K5
        have K5 := K5n
        clear K5n
        have HTBn := Lib.hid (HTB.out.below b1)
        clear HTB
        have HTB := HTBn
        clear HTBn
        have HBLn := Lib.hid (HBL.out.trans (b1.mono HBL.out.size))
        clear HBL
        have HBL := HBLn
        clear HBLn
        have HAy1n := Lib.hid (HAy1.out.below b1)
        clear HAy1
        have HAy1 := HAy1n
        clear HAy1n
        have HWy1n := Lib.hid (HWy1.out.below b1)
        clear HWy1
        have HWy1 := HWy1n
        clear HWy1n
        have K13 : Hid (Blk 70 w10 NK13 (rxC y1)) := Lib.hid q1.1
        clear KX BX q1 b1 HNK13
        by_cases hfm : a1 ≠ 4 ∧ a1 ≠ 6
        · have hf1 : (a1 != 4) = true := by simpa using hfm.1
          have hf2 : (a1 != 6) = true := by simpa using hfm.2
          obtain ⟨rfl, rfl, rfl⟩ := found_bad HFy1.out hfm
          go_wp2_with (refine wpList_ld (op := ⟨some 115, _, _, _, _, _⟩) (by rfl) 70 (.tmp 13) rfl NK13 (0) rfl (rxC rx0) _ K13.out.all Try.underlying70 rfl info_rt ?_; refine Hid.out ?_)
          refine Lib.hid ?_
          go_wp2_with (refine wpList_gv (op := ⟨some 116, _, _, _, _, _⟩) (.agg (rxC rx0)) (by rfl) (bld_rt0 _ _ rfl _) ?_; refine Hid.out ?_)
          refine Lib.hid ?_
          go_wp2_with fail
          refine (sameRoute_r rfl rx0_b (rx0_at _) (rx0_at _)).mono ?_
          rintro e w11 ⟨rfl, b1⟩
          have HBn := Lib.hid (HB.out.trans (b1.mono HB.out.size))
          clear HB
          have HB := HBn
          clear HBn
          have K5n := Lib.hid (K5.out.below b1 K5.out.lt)
          clear K5
          have K5 := K5n
          clear K5n
          have HTBn := Lib.hid (HTB.out.below b1)
          clear HTB
          have HTB := HTBn
          clear HTBn
          have HBLn := Lib.hid (HBL.out.trans (b1.mono HBL.out.size))
          clear HBL
          have HBL := HBLn
          clear HBLn
          have HAy1n := Lib.hid (HAy1.out.below b1)
          clear HAy1
          have HAy1 := HAy1n
          clear HAy1n
          have HWy1n := Lib.hid (HWy1.out.below b1)
          clear HWy1
          have HWy1 := HWy1n
          clear HWy1n
          have K13n := Lib.hid (K13.out.below b1 K13.out.lt)
          clear K13
          have K13 := K13n
          clear K13n
          clear b1
          go_wp2
          first | (go_ret; exact ⟨rfl, HB.out⟩) | exact ⟨.bool true, by simp [results, Try.f8, go_sem], rfl, HB.out⟩ | exact bodyPost_ret (v := .bool true) (by simp [results, Try.f8, go_sem]) rfl ⟨rfl, HB.out⟩
        · obtain ⟨pl, hpl⟩ : ∃ pl : Bool, a1 = famB pl := by rcases (by omega : a1 = 4 ∨ a1 = 6) with rfl | rfl; exact ⟨false, rfl⟩; exact ⟨true, rfl⟩
          clear hfm
          cases pl with
          | false =>
            obtain rfl : a1 = 4 := hpl
            go_wp2_with (refine wpList_ld (op := ⟨some 141, _, _, _, _, _⟩) (by rfl) 23 (.tmp 5) rfl NK5 (0) rfl (agC zz) _ K5.out.all Try.underlying23 rfl (hi_ag zz) ?_; refine Hid.out ?_)
            refine Lib.hid ?_
            go_wp2_with fail
            refine (rfind_4 L0 a0 n cap0 zz HX2.out w10 (HRR.out _ HB.out).1 HRB.out (fun j hj => HX1.out.form j hj) (by have := HN.out; omega)).mono ?_
            rintro e w11 ⟨b1, bb, hbb, rfl⟩
            have HBn := Lib.hid (HB.out.trans (b1.mono HB.out.size))
            clear HB
            have HB := HBn
            clear HBn
            have K5n := Lib.hid (K5.out.below b1 K5.out.lt)
            clear K5
            have K5 := K5n
            clear K5n
            have HTBn := Lib.hid (HTB.out.below b1)
            clear HTB
            have HTB := HTBn
            clear HTBn
            have HBLn := Lib.hid (HBL.out.trans (b1.mono HBL.out.size))
            clear HBL
            have HBL := HBLn
            clear HBLn
            have HAy1n := Lib.hid (HAy1.out.below b1)
            clear HAy1
            have HAy1 := HAy1n
            clear HAy1n
            have HWy1n := Lib.hid (HWy1.out.below b1)
            clear HWy1
            have HWy1 := HWy1n
            clear HWy1n
            have K13n := Lib.hid (K13.out.below b1 K13.out.lt)
            clear K13
            have K13 := K13n
            clear K13n
            clear b1
            have HBB := Lib.hid (hbb)
            clear hbb
            obtain ⟨x1, hx1⟩ : ∃ x1, bestR L0 bb = x1 := ⟨_, rfl⟩
            have HXE := Lib.hid (hx1)
            obtain ⟨fl, hfl⟩ : ∃ fl, bb.isSome = fl := ⟨_, rfl⟩
            have HFL := Lib.hid (hfl)
            obtain ⟨rfl, e9, hyr⟩ := found_best HTB.out HPM.out HX1.out HRB.out HBB.out (pl := false) HFy1.out
            rw [hfl] at e9 ⊢
            subst e9
            rw [hx1] at hyr ⊢
            have HY1 := Lib.hid (hyr)
            clear hyr hx1 hfl
            have HXB : Hid (RtB x1.r) := Lib.hid (by rw [← HXE.out]; exact bestR_b (n := n) HRB.out bb)
            have HXA : Hid (∀ W, Below w.heap.size w W → HopAt W x1) := Lib.hid (fun W hW => by rw [← HXE.out]; exact bestR_at (HRR.out W hW).2 HBB.out)
            obtain ⟨NK16, hNK16⟩ : ∃ N, w11.heap.size = N := ⟨_, rfl⟩
            have HNK16 := Lib.hid hNK16
            clear hNK16
            go_wp2_with (refine wpList_new (op := ⟨some 16, _, _, _, _, _⟩) rfl 70 rfl (rxC rx0) zero_rt NK16 HNK16.out ?_; intro w12 k1 b1 s1; refine Hid.out ?_)
            refine Lib.hid ?_
            have KX := Lib.hid k1
            have BX := Lib.hid b1
            clear k1 b1 s1
            go_wp2_with (refine wpList_st rfl 70 (.tmp 16) (.tmp 143) rfl NK16 0 rfl (.agg (rxC x1)) (rxC x1) rfl rfl info_rt (rx_one _) KX.out (Nat.le_of_ble_eq_true rfl) (C' := rxC x1) (rx_over _ _) ?_; intro w13 q1; refine Hid.out ?_)
            refine Lib.hid ?_
            have b1 : Below w11.heap.size w11 w13 := BX.out.trans (q1.2.1 _ (by rw [HNK16.out]; exact Nat.le_refl _))
            have HBn := Lib.hid (HB.out.trans (b1.mono HB.out.size))
            clear HB
            have HB := HBn
            clear HBn
            have K5n := Lib.hid (K5.out.below b1 K5.out.lt)
            clear K5
            have K5 := K5n
            clear K5n
            have HTBn := Lib.hid (HTB.out.below b1)
            clear HTB
            have HTB := HTBn
            clear HTBn
            have HBLn := Lib.hid (HBL.out.trans (b1.mono HBL.out.size))
            clear HBL
            have HBL := HBLn
            clear HBLn
            have HAy1n := Lib.hid (HAy1.out.below b1)
            clear HAy1
            have HAy1 := HAy1n
            clear HAy1n
            have HWy1n := Lib.hid (HWy1.out.below b1)
            clear HWy1
            have HWy1 := HWy1n
            clear HWy1n
            have K13n := Lib.hid (K13.out.below b1 K13.out.lt)
            clear K13
            have K13 := K13n
            clear K13n
            have K16 : Hid (Blk 70 w13 NK16 (rxC x1)) := Lib.hid q1.1
            clear KX BX q1 b1 HNK16
            have HWL := Lib.hid HBL.out.size
            go_wp2_with fail
            refine (tlistR_any tt ss n A c S T _ HTB.out).mono ?_
            rintro e w14 ⟨v18, R_, rfl, hc, b1⟩
            have HBn := Lib.hid (HB.out.trans (b1.mono HB.out.size))
            clear HB
            have HB := HBn
            clear HBn
            have K5n := Lib.hid (K5.out.below b1 K5.out.lt)
            clear K5
            have K5 := K5n
            clear K5n
            have HTBn := Lib.hid (HTB.out.below b1)
            clear HTB
            have HTB := HTBn
            clear HTBn
            have HBLn := Lib.hid (HBL.out.trans (b1.mono HBL.out.size))
            clear HBL
            have HBL := HBLn
            clear HBLn
            have HAy1n := Lib.hid (HAy1.out.below b1)
            clear HAy1
            have HAy1 := HAy1n
            clear HAy1n
            have HWy1n := Lib.hid (HWy1.out.below b1)
            clear HWy1
            have HWy1 := HWy1n
            clear HWy1n
            have K13n := Lib.hid (K13.out.below b1 K13.out.lt)
            clear K13
            have K13 := K13n
            clear K13n
            have K16n := Lib.hid (K16.out.below b1 K16.out.lt)
            clear K16
            have K16 := K16n
            clear K16n
            clear b1
            have HCL := Lib.hid (hc)
            clear hc
            obtain ⟨A18, c18, rfl, _, _, _, _⟩ := HCL.out.own.shape (rxB_recs _) (by decide)
            go_wp2_with (refine wpList_ld (op := ⟨some 155, _, _, _, _, _⟩) (by rfl) 70 (.tmp 13) rfl NK13 (0) rfl (rxC y1) _ K13.out.all Try.underlying70 rfl info_rt ?_; refine Hid.out ?_)
            refine Lib.hid ?_
            go_wp2_with (refine wpList_ld (op := ⟨some 156, _, _, _, _, _⟩) (by rfl) 70 (.tmp 16) rfl NK16 (0) rfl (rxC x1) _ K16.out.all Try.underlying70 rfl info_rt ?_; refine Hid.out ?_)
            refine Lib.hid ?_
            go_wp2_with fail
            refine (sameRoute_r HY1.out HXB.out HAy1.out (HXA.out _ HB.out)).mono ?_
            rintro e w15 ⟨rfl, b1⟩
            have HBn := Lib.hid (HB.out.trans (b1.mono HB.out.size))
            clear HB
            have HB := HBn
            clear HBn
            have K5n := Lib.hid (K5.out.below b1 K5.out.lt)
            clear K5
            have K5 := K5n
            clear K5n
            have HTBn := Lib.hid (HTB.out.below b1)
            clear HTB
            have HTB := HTBn
            clear HTBn
            have HBLn := Lib.hid (HBL.out.trans (b1.mono HBL.out.size))
            clear HBL
            have HBL := HBLn
            clear HBLn
            have HAy1n := Lib.hid (HAy1.out.below b1)
            clear HAy1
            have HAy1 := HAy1n
            clear HAy1n
            have HWy1n := Lib.hid (HWy1.out.below b1)
            clear HWy1
            have HWy1 := HWy1n
            clear HWy1n
            have K13n := Lib.hid (K13.out.below b1 K13.out.lt)
            clear K13
            have K13 := K13n
            clear K13n
            have K16n := Lib.hid (K16.out.below b1 K16.out.lt)
            clear K16
            have K16 := K16n
            clear K16n
            have HCLn := Lib.hid (HCL.out.below b1)
            clear HCL
            have HCL := HCLn
            clear HCLn
            clear b1
            go_wp2_with fail
            refine (order_any L0 a0 n cap0 w15 (HRR.out _ HB.out).1 HRB.out (fun j hj => HX1.out.form j hj) (by have := HN.out; omega)).mono ?_
            rintro e w16 ⟨b1, o1, rfl, ho⟩
            have HBn := Lib.hid (HB.out.trans (b1.mono HB.out.size))
            clear HB
            have HB := HBn
            clear HBn
            have K5n := Lib.hid (K5.out.below b1 K5.out.lt)
            clear K5
            have K5 := K5n
            clear K5n
            have HTBn := Lib.hid (HTB.out.below b1)
            clear HTB
            have HTB := HTBn
            clear HTBn
            have HBLn := Lib.hid (HBL.out.trans (b1.mono HBL.out.size))
            clear HBL
            have HBL := HBLn
            clear HBLn
            have HAy1n := Lib.hid (HAy1.out.below b1)
            clear HAy1
            have HAy1 := HAy1n
            clear HAy1n
            have HWy1n := Lib.hid (HWy1.out.below b1)
            clear HWy1
            have HWy1 := HWy1n
            clear HWy1n
            have K13n := Lib.hid (K13.out.below b1 K13.out.lt)
            clear K13
            have K13 := K13n
            clear K13n
            have K16n := Lib.hid (K16.out.below b1 K16.out.lt)
            clear K16
            have K16 := K16n
            clear K16n
            have HCLn := Lib.hid (HCL.out.below b1)
            clear HCL
            have HCL := HCLn
            clear HCLn
            clear b1
            obtain ⟨Ao1, co1, rfl, _, _, _, hro1⟩ := ho.shape (rxB_recs _) (by decide)
            have HRo1 := Lib.hid (hro1)
            clear ho hro1
            go_wp2_with fail
            refine (same_any (fun j => R_.getD j rx0) (fun j => (ordL L0 n).getD j rx0) A18 Ao1 n c18 co1 w16 (ownR_rdr HCL.out.own) HRo1.out (fun j hj => by rw [HCL.out.same j hj]; exact ord_at HTB.out HPM.out HAC.out HX1.out HC0.out HRB.out j hj) (fun j hj => by rw [HCL.out.same j hj]; obtain ⟨q, hq, e⟩ := HPM.out.to j hj; rw [e]; exact HRB.out q) (fun j hj => (HCL.out.hop _ (S_mem HCL.out.len hj)).at) (fun j hj => by obtain ⟨q, hq, e⟩ := ord_x (X := L0) hj; rw [e]; exact (HRR.out _ HB.out).2 q hq) (by have := HN.out; omega)).mono ?_
            rintro e w17 ⟨rfl, b1⟩
            have HBn := Lib.hid (HB.out.trans (b1.mono HB.out.size))
            clear HB
            have HB := HBn
            clear HBn
            have K5n := Lib.hid (K5.out.below b1 K5.out.lt)
            clear K5
            have K5 := K5n
            clear K5n
            have HTBn := Lib.hid (HTB.out.below b1)
            clear HTB
            have HTB := HTBn
            clear HTBn
            have HBLn := Lib.hid (HBL.out.trans (b1.mono HBL.out.size))
            clear HBL
            have HBL := HBLn
            clear HBLn
            have HAy1n := Lib.hid (HAy1.out.below b1)
            clear HAy1
            have HAy1 := HAy1n
            clear HAy1n
            have HWy1n := Lib.hid (HWy1.out.below b1)
            clear HWy1
            have HWy1 := HWy1n
            clear HWy1n
            have K13n := Lib.hid (K13.out.below b1 K13.out.lt)
            clear K13
            have K13 := K13n
            clear K13n
            have K16n := Lib.hid (K16.out.below b1 K16.out.lt)
            clear K16
            have K16 := K16n
            clear K16n
            have HCLn := Lib.hid (HCL.out.below b1)
            clear HCL
            have HCL := HCLn
            clear HCLn
            clear b1
            have HOE : Hid (OwnR w17 w7.heap.size 70 21 (.slice A18 n c18) n (rxB R_)) := Lib.hid (HCL.out.own.mono HWL.out)
            have HWE : Hid (∀ y, y ∈ R_ → HopW w17 w7.heap.size y) := Lib.hid (fun y hy => ((HCL.out.hop y hy).w).mono HWL.out)
            have HLE : Hid (∀ j, j < n → (R_.getD j rx0).r.n ≤ 8796093021952) := Lib.hid (fun j hj => (HCL.out.hop _ (S_mem HCL.out.len hj)).2)
            have HLL := Lib.hid HCL.out.len
            clear HCL
            have hnI2 : (n : Int) ≤ 9223372036854775807 := by have := HN.out; omega
            go_wp2_with fail
            go_loopw [167] (fun t wr => ∃ j : Nat, j ≤ n ∧ t = .int .i64 j ∧ Hid (OwnR wr w7.heap.size 70 21 (.slice A18 n c18) n (rxB R_)) ∧ Hid (∀ y, y ∈ R_ → HopW wr w7.heap.size y) ∧ Hid (HopW wr w7.heap.size y1) ∧ Hid (Below w7.heap.size w7 wr) ∧ Hid (Blk 70 wr NK13 (rxC y1)) ∧ Hid (Blk 70 wr NK16 (rxC x1))) (fun t _ => n - (intOf t).toNat)
            case atStart => exact ⟨0, by omega, rfl, HOE, HWE, HWy1, HBL, K13, K16⟩
            case round =>
              obtain ⟨i, hi, rfl, rhoe, rhwe, rhwy1, rhbl, rk13, rk16⟩ := hrel
              clear HOE HWE HWy1 HBL K13 K16
              have HOE := rhoe
              have HWE := rhwe
              have HWy1 := rhwy1
              have HBL := rhbl
              have K13 := rk13
              have K16 := rk16
              clear rhoe rhwe rhwy1 rhbl rk13 rk16
              by_cases hin : i < n
              · have HIN := Lib.hid hin
                have hii : (i : Int) < (n : Int) := by omega
                have hi0 : (0 : Int) ≤ (i : Int) := by omega
                clear hin hi
                obtain ⟨y, hy⟩ : ∃ y, R_.getD i rx0 = y := ⟨_, rfl⟩
                have HY := Lib.hid (hy)
                have HYM : Hid (y ∈ R_) := Lib.hid (by rw [← hy]; exact S_mem HLL.out HIN.out)
                have hyI : (y.r.n : Int) ≤ 9223372036854775807 := by have h9 := HLE.out i HIN.out; rw [hy] at h9; omega
                clear hy
                obtain ⟨b0, o0, rfl, r0⟩ := (ownR_rdr HOE.out).row (by have := HIN.out; omega)
                have c20 : wr.cell? ⟨b0, o0 + i * 21 + 20, none⟩ = some (.slice y.A y.r.n y.c) := by have h9 := r0.2 i HIN.out 20 (.slice (R_.getD i rx0).A (R_.getD i rx0).r.n (R_.getD i rx0).c) rfl; rw [HY.out] at h9; exact h9
                clear r0
                go_wp2_with fail
                clear c20
                go_loopw [176] (fun t wr => ∃ j : Nat, j ≤ y.r.n ∧ t = .int .i64 j ∧ Hid (OwnR wr w7.heap.size 70 21 (.slice (some ⟨b0, o0, none⟩) n c18) n (rxB R_)) ∧ Hid (∀ y, y ∈ R_ → HopW wr w7.heap.size y) ∧ Hid (HopW wr w7.heap.size y1) ∧ Hid (Below w7.heap.size w7 wr) ∧ Hid (Blk 70 wr NK13 (rxC y1)) ∧ Hid (Blk 70 wr NK16 (rxC x1))) (fun t _ => y.r.n - (intOf t).toNat)
                case atStart => exact ⟨0, by omega, rfl, HOE, HWE, HWy1, HBL, K13, K16⟩
                case round =>
                  obtain ⟨j, hj, rfl, rhoe, rhwe, rhwy1, rhbl, rk13, rk16⟩ := hrel
                  clear HOE HWE HWy1 HBL K13 K16
                  have HOE := rhoe
                  have HWE := rhwe
                  have HWy1 := rhwy1
                  have HBL := rhbl
                  have K13 := rk13
                  have K16 := rk16
                  clear rhoe rhwe rhwy1 rhbl rk13 rk16
                  by_cases hjn : j < y.r.n
                  · have HJN := Lib.hid hjn
                    have hjj : (j : Int) < (y.r.n : Int) := by omega
                    have hj0 : (0 : Int) ≤ (j : Int) := by omega
                    clear hjn hj
                    obtain ⟨gg, cur, hA, hBg, hblk, hsz, hzz⟩ := HWE.out y HYM.out (by have := HJN.out; omega)
                    obtain ⟨z, hz⟩ := hzz j HJN.out
                    have HBLK := Lib.hid hblk
                    have HSZ2 : Hid (j * 7 + 1 ≤ cur.size) := Lib.hid (by have := HJN.out; omega)
                    have HBG := Lib.hid (hBg)
                    have cz : wr.cell? ⟨gg, j * 7, none⟩ = some (.int .i64 z) := cell_blk hblk hz
                    clear hBg hblk hsz hzz hz
                    obtain ⟨b9, o9, e9, r0⟩ := (ownR_rdr HOE.out).row (by have := HIN.out; omega)
                    cases e9
                    have c20 : wr.cell? ⟨b0, o0 + i * 21 + 20, none⟩ = some (.slice (some ⟨gg, 0, none⟩) y.r.n y.c) := by have h9 := r0.2 i HIN.out 20 (.slice (R_.getD i rx0).A (R_.getD i rx0).r.n (R_.getD i rx0).c) rfl; rw [HY.out, hA] at h9; exact h9
                    clear hA r0
                    obtain ⟨xh, hxh⟩ : ∃ xz : Int, bits .xor .i64 z 2 = xz := ⟨_, rfl⟩
                    have HXH := Lib.hid (hxh)
                    clear hxh
                    go_wp2_with (refine wpList_v (op := ⟨some 188, _, _, _, _, _⟩) rfl (.int .i64 xh) (by rw [← HXH.out]; exact xor1_run _ _ rfl z rfl rfl _) ?_; refine Hid.out ?_)
                    refine Lib.hid ?_
                    go_wp2_with (refine wpList_st rfl 3 (.tmp 190) (.tmp 188) rfl gg (j * 7) rfl (.int .i64 xh) (#[.int .i64 xh]) rfl rfl info_in (hp_one _) HBLK.out HSZ2.out (C' := putMany cur (j * 7) [.int .i64 xh]) rfl ?_; intro wq2 q1; refine Hid.out ?_)
                    refine Lib.hid ?_
                    have HOEn := Lib.hid (HOE.out.stR HBLK.out (by decide) q1)
                    have HWEn := Lib.hid (fun y hy => (HWE.out y hy).put HBLK.out q1)
                    have HWy1n := Lib.hid (HWy1.out.put HBLK.out q1)
                    have HBLn := Lib.hid (HBL.out.trans (q1.2.1 _ HBG.out))
                    have K13n := Lib.hid (K13.out.farN HBLK.out (by decide) q1)
                    have K16n := Lib.hid (K16.out.farN HBLK.out (by decide) q1)
                    clear HOE HWE HWy1 HBL K13 K16 q1 c20 cz HBLK
                    go_wp2_with fail
                    go_roundw
                    case rel => exact ⟨j + 1, HJN.out, by go_num, HOEn, HWEn, HWy1n, HBLn, K13n, K16n⟩
                    case measure => have := HJN.out; simp only [intOf]; omega
                  · obtain hje : j = y.r.n := by omega
                    subst hje
                    clear hj hjn
                    go_wp2_with fail
                    go_roundw
                    case rel => exact ⟨i + 1, HIN.out, by go_num, HOE, HWE, HWy1, HBL, K13, K16⟩
                    case measure => have := HIN.out; simp only [intOf]; omega
              · obtain hie : n = i := by omega
                subst hie
                clear hi hin
                obtain ⟨wv, hwv⟩ : ∃ x : World, x = wr := ⟨_, rfl⟩
                subst hwv
                have HYN : Hid (y1.r.n ≤ 8796093021952) := Lib.hid HAy1.out.le
                have hyI1 : (y1.r.n : Int) ≤ 9223372036854775807 := by have := HYN.out; omega
                have c20 : wv.cell? ⟨NK13, 20, none⟩ = some (.slice y1.A y1.r.n y1.c) := (K13.out.cell 20).trans rfl
                go_wp2_with fail
                clear c20
                clear HOE HWE
                go_loopw [196] (fun t wr => ∃ j : Nat, j ≤ y1.r.n ∧ t = .int .i64 j ∧ Hid (HopW wr w7.heap.size y1) ∧ Hid (Below w7.heap.size w7 wr) ∧ Hid (Blk 70 wr NK13 (rxC y1)) ∧ Hid (Blk 70 wr NK16 (rxC x1))) (fun t _ => y1.r.n - (intOf t).toNat)
                case atStart => exact ⟨0, by omega, rfl, HWy1, HBL, K13, K16⟩
                case round =>
                  obtain ⟨j, hj, rfl, rhwy1, rhbl, rk13, rk16⟩ := hrel
                  clear HWy1 HBL K13 K16
                  have HWy1 := rhwy1
                  have HBL := rhbl
                  have K13 := rk13
                  have K16 := rk16
                  clear rhwy1 rhbl rk13 rk16
                  by_cases hjn : j < y1.r.n
                  · have HJN := Lib.hid hjn
                    have hjj : (j : Int) < (y1.r.n : Int) := by omega
                    have hj0 : (0 : Int) ≤ (j : Int) := by omega
                    clear hjn hj
                    obtain ⟨gg, cur, hA, hBg, hblk, hsz, hzz⟩ := HWy1.out (by have := HJN.out; omega)
                    obtain ⟨z, hz⟩ := hzz j HJN.out
                    have HBLK := Lib.hid hblk
                    have HSZ2 : Hid (j * 7 + 1 ≤ cur.size) := Lib.hid (by have := HJN.out; omega)
                    have HBG := Lib.hid (hBg)
                    have cz : wr.cell? ⟨gg, j * 7, none⟩ = some (.int .i64 z) := cell_blk hblk hz
                    clear hBg hblk hsz hzz hz
                    have c20 : wr.cell? ⟨NK13, 20, none⟩ = some (.slice (some ⟨gg, 0, none⟩) y1.r.n y1.c) := by rw [← hA]; exact (K13.out.cell 20).trans rfl
                    clear hA
                    obtain ⟨xh, hxh⟩ : ∃ xz : Int, bits .xor .i64 z 2 = xz := ⟨_, rfl⟩
                    have HXH := Lib.hid (hxh)
                    clear hxh
                    go_wp2_with (refine wpList_v (op := ⟨some 205, _, _, _, _, _⟩) rfl (.int .i64 xh) (by rw [← HXH.out]; exact xor1_run _ _ rfl z rfl rfl _) ?_; refine Hid.out ?_)
                    refine Lib.hid ?_
                    go_wp2_with (refine wpList_st rfl 3 (.tmp 207) (.tmp 205) rfl gg (j * 7) rfl (.int .i64 xh) (#[.int .i64 xh]) rfl rfl info_in (hp_one _) HBLK.out HSZ2.out (C' := putMany cur (j * 7) [.int .i64 xh]) rfl ?_; intro wq2 q1; refine Hid.out ?_)
                    refine Lib.hid ?_
                    have HWy1n := Lib.hid (HWy1.out.put HBLK.out q1)
                    have HBLn := Lib.hid (HBL.out.trans (q1.2.1 _ HBG.out))
                    have K13n := Lib.hid (K13.out.farN HBLK.out (by decide) q1)
                    have K16n := Lib.hid (K16.out.farN HBLK.out (by decide) q1)
                    clear HWy1 HBL K13 K16 q1 c20 cz HBLK
                    go_wp2_with fail
                    go_roundw
                    case rel => exact ⟨j + 1, HJN.out, by go_num, HWy1n, HBLn, K13n, K16n⟩
                    case measure => have := HJN.out; simp only [intOf]; omega
                  · obtain hje : j = y1.r.n := by omega
                    subst hje
                    clear hj hjn
                    obtain ⟨wf, hwf⟩ : ∃ x : World, x = wr := ⟨_, rfl⟩
                    subst hwf
                    clear HB HTB K5
                    have HB := Lib.hid (HBW.out.trans (HBL.out.mono HBW.out.size))
                    have HTB := Lib.hid (HTW.out.below HBL.out)
                    have K5 := Lib.hid (K57.out.below HBL.out K57.out.lt)
                    go_wp2_with (refine wpList_ld (op := ⟨some 212, _, _, _, _, _⟩) (by rfl) 23 (.tmp 5) rfl NK5 (0) rfl (agC zz) _ K5.out.all Try.underlying23 rfl (hi_ag zz) ?_; refine Hid.out ?_)
                    refine Lib.hid ?_
                    go_wp2_with fail
                    refine (tfind_any tt ss n A c S T 4 zz HX2.out wf HTB.out).mono ?_
                    intro e w20 h9
                    have b1 := h9.1
                    obtain ⟨bq2, y2, er2, rfl, hat, hww, hfd⟩ := tfind_e h9
                    have HBn := Lib.hid (HB.out.trans (b1.mono HB.out.size))
                    clear HB
                    have HB := HBn
                    clear HBn
                    have K5n := Lib.hid (K5.out.below b1 K5.out.lt)
                    clear K5
                    have K5 := K5n
                    clear K5n
                    have HTBn := Lib.hid (HTB.out.below b1)
                    clear HTB
                    have HTB := HTBn
                    clear HTBn
                    have K16n := Lib.hid (K16.out.below b1 K16.out.lt)
                    clear K16
                    have K16 := K16n
                    clear K16n
                    clear b1 h9
                    have HAy2 := Lib.hid (hat)
                    obtain ⟨rfl, e9, hyr⟩ := found_best HTB.out HPM.out HX1.out HRB.out HBB.out (pl := false) hfd
                    rw [HXE.out] at hyr
                    have HY2 := Lib.hid (hyr)
                    clear hat hww hfd e9 hyr
                    obtain ⟨NK23, hNK23⟩ : ∃ N, w20.heap.size = N := ⟨_, rfl⟩
                    have HNK23 := Lib.hid hNK23
                    clear hNK23
                    go_wp2_with (refine wpList_new (op := ⟨some 23, _, _, _, _, _⟩) rfl 70 rfl (rxC rx0) zero_rt NK23 HNK23.out ?_; intro w21 k1 b1 s1; refine Hid.out ?_)
                    refine Lib.hid ?_
                    have KX := Lib.hid k1
                    have BX := Lib.hid b1
                    clear k1 b1 s1
                    go_wp2_with (refine wpList_st rfl 70 (.tmp 23) (.tmp 214) rfl NK23 0 rfl (.agg (rxC y2)) (rxC y2) rfl rfl info_rt (rx_one _) KX.out (Nat.le_of_ble_eq_true rfl) (C' := rxC y2) (rx_over _ _) ?_; intro w22 q1; refine Hid.out ?_)
                    refine Lib.hid ?_
                    have b1 : Below w20.heap.size w20 w22 := BX.out.trans (q1.2.1 _ (by rw [HNK23.out]; exact Nat.le_refl _))
                    have HBn := Lib.hid (HB.out.trans (b1.mono HB.out.size))
                    clear HB
                    have HB := HBn
                    clear HBn
                    have K5n := Lib.hid (K5.out.below b1 K5.out.lt)
                    clear K5
                    have K5 := K5n
                    clear K5n
                    have HTBn := Lib.hid (HTB.out.below b1)
                    clear HTB
                    have HTB := HTBn
                    clear HTBn
                    have K16n := Lib.hid (K16.out.below b1 K16.out.lt)
                    clear K16
                    have K16 := K16n
                    clear K16n
                    have HAy2n := Lib.hid (HAy2.out.below b1)
                    clear HAy2
                    have HAy2 := HAy2n
                    clear HAy2n
                    have K23 : Hid (Blk 70 w22 NK23 (rxC y2)) := Lib.hid q1.1
                    clear KX BX q1 b1 HNK23
                    go_wp2_with (refine wpList_ld (op := ⟨some 219, _, _, _, _, _⟩) (by rfl) 70 (.tmp 23) rfl NK23 (0) rfl (rxC y2) _ K23.out.all Try.underlying70 rfl info_rt ?_; refine Hid.out ?_)
                    refine Lib.hid ?_
                    go_wp2_with (refine wpList_ld (op := ⟨some 220, _, _, _, _, _⟩) (by rfl) 70 (.tmp 16) rfl NK16 (0) rfl (rxC x1) _ K16.out.all Try.underlying70 rfl info_rt ?_; refine Hid.out ?_)
                    refine Lib.hid ?_
                    go_wp2_with fail
                    refine (sameRoute_r HY2.out HXB.out HAy2.out (HXA.out _ HB.out)).mono ?_
                    rintro e w23 ⟨rfl, b1⟩
                    have HBn := Lib.hid (HB.out.trans (b1.mono HB.out.size))
                    clear HB
                    have HB := HBn
                    clear HBn
                    have K5n := Lib.hid (K5.out.below b1 K5.out.lt)
                    clear K5
                    have K5 := K5n
                    clear K5n
                    have HTBn := Lib.hid (HTB.out.below b1)
                    clear HTB
                    have HTB := HTBn
                    clear HTBn
                    have K16n := Lib.hid (K16.out.below b1 K16.out.lt)
                    clear K16
                    have K16 := K16n
                    clear K16n
                    have HAy2n := Lib.hid (HAy2.out.below b1)
                    clear HAy2
                    have HAy2 := HAy2n
                    clear HAy2n
                    have K23n := Lib.hid (K23.out.below b1 K23.out.lt)
                    clear K23
                    have K23 := K23n
                    clear K23n
                    clear b1
                    go_wp2_with fail
                    refine (tlistR_any tt ss n A c S T _ HTB.out).mono ?_
                    rintro e w24 ⟨v25, R2, rfl, hc, b1⟩
                    have HBn := Lib.hid (HB.out.trans (b1.mono HB.out.size))
                    clear HB
                    have HB := HBn
                    clear HBn
                    have K5n := Lib.hid (K5.out.below b1 K5.out.lt)
                    clear K5
                    have K5 := K5n
                    clear K5n
                    have HTBn := Lib.hid (HTB.out.below b1)
                    clear HTB
                    have HTB := HTBn
                    clear HTBn
                    have K16n := Lib.hid (K16.out.below b1 K16.out.lt)
                    clear K16
                    have K16 := K16n
                    clear K16n
                    have HAy2n := Lib.hid (HAy2.out.below b1)
                    clear HAy2
                    have HAy2 := HAy2n
                    clear HAy2n
                    have K23n := Lib.hid (K23.out.below b1 K23.out.lt)
                    clear K23
                    have K23 := K23n
                    clear K23n
                    clear b1
                    have HCL := Lib.hid (hc)
                    clear hc
                    obtain ⟨A25, c25, rfl, _, _, _, _⟩ := HCL.out.own.shape (rxB_recs _) (by decide)
                    go_wp2_with fail
                    refine (order_any L0 a0 n cap0 w24 (HRR.out _ HB.out).1 HRB.out (fun j hj => HX1.out.form j hj) (by have := HN.out; omega)).mono ?_
                    rintro e w25 ⟨b1, o2, rfl, ho⟩
                    have HBn := Lib.hid (HB.out.trans (b1.mono HB.out.size))
                    clear HB
                    have HB := HBn
                    clear HBn
                    have K5n := Lib.hid (K5.out.below b1 K5.out.lt)
                    clear K5
                    have K5 := K5n
                    clear K5n
                    have HTBn := Lib.hid (HTB.out.below b1)
                    clear HTB
                    have HTB := HTBn
                    clear HTBn
                    have K16n := Lib.hid (K16.out.below b1 K16.out.lt)
                    clear K16
                    have K16 := K16n
                    clear K16n
                    have HAy2n := Lib.hid (HAy2.out.below b1)
                    clear HAy2
                    have HAy2 := HAy2n
                    clear HAy2n
                    have K23n := Lib.hid (K23.out.below b1 K23.out.lt)
                    clear K23
                    have K23 := K23n
                    clear K23n
                    have HCLn := Lib.hid (HCL.out.below b1)
                    clear HCL
                    have HCL := HCLn
                    clear HCLn
                    clear b1
                    obtain ⟨Ao2, co2, rfl, _, _, _, hro2⟩ := ho.shape (rxB_recs _) (by decide)
                    have HRo2 := Lib.hid (hro2)
                    clear ho hro2
                    go_wp2_with fail
                    refine (same_any (fun j => R2.getD j rx0) (fun j => (ordL L0 n).getD j rx0) A25 Ao2 n c25 co2 w25 (ownR_rdr HCL.out.own) HRo2.out (fun j hj => by rw [HCL.out.same j hj]; exact ord_at HTB.out HPM.out HAC.out HX1.out HC0.out HRB.out j hj) (fun j hj => by rw [HCL.out.same j hj]; obtain ⟨q, hq, e⟩ := HPM.out.to j hj; rw [e]; exact HRB.out q) (fun j hj => (HCL.out.hop _ (S_mem HCL.out.len hj)).at) (fun j hj => by obtain ⟨q, hq, e⟩ := ord_x (X := L0) hj; rw [e]; exact (HRR.out _ HB.out).2 q hq) (by have := HN.out; omega)).mono ?_
                    rintro e w26 ⟨rfl, b1⟩
                    have HBn := Lib.hid (HB.out.trans (b1.mono HB.out.size))
                    clear HB
                    have HB := HBn
                    clear HBn
                    have K5n := Lib.hid (K5.out.below b1 K5.out.lt)
                    clear K5
                    have K5 := K5n
                    clear K5n
                    have HTBn := Lib.hid (HTB.out.below b1)
                    clear HTB
                    have HTB := HTBn
                    clear HTBn
                    have K16n := Lib.hid (K16.out.below b1 K16.out.lt)
                    clear K16
                    have K16 := K16n
                    clear K16n
                    have HAy2n := Lib.hid (HAy2.out.below b1)
                    clear HAy2
                    have HAy2 := HAy2n
                    clear HAy2n
                    have K23n := Lib.hid (K23.out.below b1 K23.out.lt)
                    clear K23
                    have K23 := K23n
                    clear K23n
                    have HCLn := Lib.hid (HCL.out.below b1)
                    clear HCL
                    have HCL := HCLn
                    clear HCLn
                    clear b1
                    rename_i hK
                    refine hK _ _ ?_
                    clear hK
                    refine wpList_gv (op := ⟨some 229, _, _, _, _, _⟩) (w' := w26) (.bool true) (by rfl) (by go_simp) ?_
                    simp only [Act.put, List.setIfInBounds_toArray, List.set_cons_zero, List.set_cons_succ]
                    refine wpList_gv (op := ⟨some 6, _, _, _, _, _⟩) (w' := w26) (.bool true) (by rfl) (by go_simp) ?_
                    simp only [Act.put, List.setIfInBounds_toArray, List.set_cons_zero, List.set_cons_succ]
                    go_wp2
                    first | (go_ret; exact ⟨rfl, HB.out⟩) | exact ⟨.bool true, by simp [results, Try.f8, go_sem], rfl, HB.out⟩ | exact bodyPost_ret (v := .bool true) (by simp [results, Try.f8, go_sem]) rfl ⟨rfl, HB.out⟩
          | true =>
            obtain rfl : a1 = 6 := hpl
            go_wp2_with (refine wpList_ld (op := ⟨some 141, _, _, _, _, _⟩) (by rfl) 23 (.tmp 5) rfl NK5 (0) rfl (agC zz) _ K5.out.all Try.underlying23 rfl (hi_ag zz) ?_; refine Hid.out ?_)
            refine Lib.hid ?_
            go_wp2_with fail
            refine (rfind_6 L0 a0 n cap0 zz HX2.out w10 (HRR.out _ HB.out).1 HRB.out (fun j hj => HX1.out.form j hj) (by have := HN.out; omega)).mono ?_
            rintro e w11 ⟨b1, bb, hbb, rfl⟩
            have HBn := Lib.hid (HB.out.trans (b1.mono HB.out.size))
            clear HB
            have HB := HBn
            clear HBn
            have K5n := Lib.hid (K5.out.below b1 K5.out.lt)
            clear K5
            have K5 := K5n
            clear K5n
            have HTBn := Lib.hid (HTB.out.below b1)
            clear HTB
            have HTB := HTBn
            clear HTBn
            have HBLn := Lib.hid (HBL.out.trans (b1.mono HBL.out.size))
            clear HBL
            have HBL := HBLn
            clear HBLn
            have HAy1n := Lib.hid (HAy1.out.below b1)
            clear HAy1
            have HAy1 := HAy1n
            clear HAy1n
            have HWy1n := Lib.hid (HWy1.out.below b1)
            clear HWy1
            have HWy1 := HWy1n
            clear HWy1n
            have K13n := Lib.hid (K13.out.below b1 K13.out.lt)
            clear K13
            have K13 := K13n
            clear K13n
            clear b1
            have HBB := Lib.hid (hbb)
            clear hbb
            obtain ⟨x1, hx1⟩ : ∃ x1, bestR L0 bb = x1 := ⟨_, rfl⟩
            have HXE := Lib.hid (hx1)
            obtain ⟨fl, hfl⟩ : ∃ fl, bb.isSome = fl := ⟨_, rfl⟩
            have HFL := Lib.hid (hfl)
            obtain ⟨rfl, e9, hyr⟩ := found_best HTB.out HPM.out HX1.out HRB.out HBB.out (pl := true) HFy1.out
            rw [hfl] at e9 ⊢
            subst e9
            rw [hx1] at hyr ⊢
            have HY1 := Lib.hid (hyr)
            clear hyr hx1 hfl
            have HXB : Hid (RtB x1.r) := Lib.hid (by rw [← HXE.out]; exact bestR_b (n := n) HRB.out bb)
            have HXA : Hid (∀ W, Below w.heap.size w W → HopAt W x1) := Lib.hid (fun W hW => by rw [← HXE.out]; exact bestR_at (HRR.out W hW).2 HBB.out)
            obtain ⟨NK16, hNK16⟩ : ∃ N, w11.heap.size = N := ⟨_, rfl⟩
            have HNK16 := Lib.hid hNK16
            clear hNK16
            go_wp2_with (refine wpList_new (op := ⟨some 16, _, _, _, _, _⟩) rfl 70 rfl (rxC rx0) zero_rt NK16 HNK16.out ?_; intro w12 k1 b1 s1; refine Hid.out ?_)
            refine Lib.hid ?_
            have KX := Lib.hid k1
            have BX := Lib.hid b1
            clear k1 b1 s1
            go_wp2_with (refine wpList_st rfl 70 (.tmp 16) (.tmp 143) rfl NK16 0 rfl (.agg (rxC x1)) (rxC x1) rfl rfl info_rt (rx_one _) KX.out (Nat.le_of_ble_eq_true rfl) (C' := rxC x1) (rx_over _ _) ?_; intro w13 q1; refine Hid.out ?_)
            refine Lib.hid ?_
            have b1 : Below w11.heap.size w11 w13 := BX.out.trans (q1.2.1 _ (by rw [HNK16.out]; exact Nat.le_refl _))
            have HBn := Lib.hid (HB.out.trans (b1.mono HB.out.size))
            clear HB
            have HB := HBn
            clear HBn
            have K5n := Lib.hid (K5.out.below b1 K5.out.lt)
            clear K5
            have K5 := K5n
            clear K5n
            have HTBn := Lib.hid (HTB.out.below b1)
            clear HTB
            have HTB := HTBn
            clear HTBn
            have HBLn := Lib.hid (HBL.out.trans (b1.mono HBL.out.size))
            clear HBL
            have HBL := HBLn
            clear HBLn
            have HAy1n := Lib.hid (HAy1.out.below b1)
            clear HAy1
            have HAy1 := HAy1n
            clear HAy1n
            have HWy1n := Lib.hid (HWy1.out.below b1)
            clear HWy1
            have HWy1 := HWy1n
            clear HWy1n
            have K13n := Lib.hid (K13.out.below b1 K13.out.lt)
            clear K13
            have K13 := K13n
            clear K13n
            have K16 : Hid (Blk 70 w13 NK16 (rxC x1)) := Lib.hid q1.1
            clear KX BX q1 b1 HNK16
            have HWL := Lib.hid HBL.out.size
            go_wp2_with fail
            refine (tlistR_any tt ss n A c S T _ HTB.out).mono ?_
            rintro e w14 ⟨v18, R_, rfl, hc, b1⟩
            have HBn := Lib.hid (HB.out.trans (b1.mono HB.out.size))
            clear HB
            have HB := HBn
            clear HBn
            have K5n := Lib.hid (K5.out.below b1 K5.out.lt)
            clear K5
            have K5 := K5n
            clear K5n
            have HTBn := Lib.hid (HTB.out.below b1)
            clear HTB
            have HTB := HTBn
            clear HTBn
            have HBLn := Lib.hid (HBL.out.trans (b1.mono HBL.out.size))
            clear HBL
            have HBL := HBLn
            clear HBLn
            have HAy1n := Lib.hid (HAy1.out.below b1)
            clear HAy1
            have HAy1 := HAy1n
            clear HAy1n
            have HWy1n := Lib.hid (HWy1.out.below b1)
            clear HWy1
            have HWy1 := HWy1n
            clear HWy1n
            have K13n := Lib.hid (K13.out.below b1 K13.out.lt)
            clear K13
            have K13 := K13n
            clear K13n
            have K16n := Lib.hid (K16.out.below b1 K16.out.lt)
            clear K16
            have K16 := K16n
            clear K16n
            clear b1
            have HCL := Lib.hid (hc)
            clear hc
            obtain ⟨A18, c18, rfl, _, _, _, _⟩ := HCL.out.own.shape (rxB_recs _) (by decide)
            go_wp2_with (refine wpList_ld (op := ⟨some 155, _, _, _, _, _⟩) (by rfl) 70 (.tmp 13) rfl NK13 (0) rfl (rxC y1) _ K13.out.all Try.underlying70 rfl info_rt ?_; refine Hid.out ?_)
            refine Lib.hid ?_
            go_wp2_with (refine wpList_ld (op := ⟨some 156, _, _, _, _, _⟩) (by rfl) 70 (.tmp 16) rfl NK16 (0) rfl (rxC x1) _ K16.out.all Try.underlying70 rfl info_rt ?_; refine Hid.out ?_)
            refine Lib.hid ?_
            go_wp2_with fail
            refine (sameRoute_r HY1.out HXB.out HAy1.out (HXA.out _ HB.out)).mono ?_
            rintro e w15 ⟨rfl, b1⟩
            have HBn := Lib.hid (HB.out.trans (b1.mono HB.out.size))
            clear HB
            have HB := HBn
            clear HBn
            have K5n := Lib.hid (K5.out.below b1 K5.out.lt)
            clear K5
            have K5 := K5n
            clear K5n
            have HTBn := Lib.hid (HTB.out.below b1)
            clear HTB
            have HTB := HTBn
            clear HTBn
            have HBLn := Lib.hid (HBL.out.trans (b1.mono HBL.out.size))
            clear HBL
            have HBL := HBLn
            clear HBLn
            have HAy1n := Lib.hid (HAy1.out.below b1)
            clear HAy1
            have HAy1 := HAy1n
            clear HAy1n
            have HWy1n := Lib.hid (HWy1.out.below b1)
            clear HWy1
            have HWy1 := HWy1n
            clear HWy1n
            have K13n := Lib.hid (K13.out.below b1 K13.out.lt)
            clear K13
            have K13 := K13n
            clear K13n
            have K16n := Lib.hid (K16.out.below b1 K16.out.lt)
            clear K16
            have K16 := K16n
            clear K16n
            have HCLn := Lib.hid (HCL.out.below b1)
            clear HCL
            have HCL := HCLn
            clear HCLn
            clear b1
            go_wp2_with fail
            refine (order_any L0 a0 n cap0 w15 (HRR.out _ HB.out).1 HRB.out (fun j hj => HX1.out.form j hj) (by have := HN.out; omega)).mono ?_
            rintro e w16 ⟨b1, o1, rfl, ho⟩
            have HBn := Lib.hid (HB.out.trans (b1.mono HB.out.size))
            clear HB
            have HB := HBn
            clear HBn
            have K5n := Lib.hid (K5.out.below b1 K5.out.lt)
            clear K5
            have K5 := K5n
            clear K5n
            have HTBn := Lib.hid (HTB.out.below b1)
            clear HTB
            have HTB := HTBn
            clear HTBn
            have HBLn := Lib.hid (HBL.out.trans (b1.mono HBL.out.size))
            clear HBL
            have HBL := HBLn
            clear HBLn
            have HAy1n := Lib.hid (HAy1.out.below b1)
            clear HAy1
            have HAy1 := HAy1n
            clear HAy1n
            have HWy1n := Lib.hid (HWy1.out.below b1)
            clear HWy1
            have HWy1 := HWy1n
            clear HWy1n
            have K13n := Lib.hid (K13.out.below b1 K13.out.lt)
            clear K13
            have K13 := K13n
            clear K13n
            have K16n := Lib.hid (K16.out.below b1 K16.out.lt)
            clear K16
            have K16 := K16n
            clear K16n
            have HCLn := Lib.hid (HCL.out.below b1)
            clear HCL
            have HCL := HCLn
            clear HCLn
            clear b1
            obtain ⟨Ao1, co1, rfl, _, _, _, hro1⟩ := ho.shape (rxB_recs _) (by decide)
            have HRo1 := Lib.hid (hro1)
            clear ho hro1
            go_wp2_with fail
            refine (same_any (fun j => R_.getD j rx0) (fun j => (ordL L0 n).getD j rx0) A18 Ao1 n c18 co1 w16 (ownR_rdr HCL.out.own) HRo1.out (fun j hj => by rw [HCL.out.same j hj]; exact ord_at HTB.out HPM.out HAC.out HX1.out HC0.out HRB.out j hj) (fun j hj => by rw [HCL.out.same j hj]; obtain ⟨q, hq, e⟩ := HPM.out.to j hj; rw [e]; exact HRB.out q) (fun j hj => (HCL.out.hop _ (S_mem HCL.out.len hj)).at) (fun j hj => by obtain ⟨q, hq, e⟩ := ord_x (X := L0) hj; rw [e]; exact (HRR.out _ HB.out).2 q hq) (by have := HN.out; omega)).mono ?_
            rintro e w17 ⟨rfl, b1⟩
            have HBn := Lib.hid (HB.out.trans (b1.mono HB.out.size))
            clear HB
            have HB := HBn
            clear HBn
            have K5n := Lib.hid (K5.out.below b1 K5.out.lt)
            clear K5
            have K5 := K5n
            clear K5n
            have HTBn := Lib.hid (HTB.out.below b1)
            clear HTB
            have HTB := HTBn
            clear HTBn
            have HBLn := Lib.hid (HBL.out.trans (b1.mono HBL.out.size))
            clear HBL
            have HBL := HBLn
            clear HBLn
            have HAy1n := Lib.hid (HAy1.out.below b1)
            clear HAy1
            have HAy1 := HAy1n
            clear HAy1n
            have HWy1n := Lib.hid (HWy1.out.below b1)
            clear HWy1
            have HWy1 := HWy1n
            clear HWy1n
            have K13n := Lib.hid (K13.out.below b1 K13.out.lt)
            clear K13
            have K13 := K13n
            clear K13n
            have K16n := Lib.hid (K16.out.below b1 K16.out.lt)
            clear K16
            have K16 := K16n
            clear K16n
            have HCLn := Lib.hid (HCL.out.below b1)
            clear HCL
            have HCL := HCLn
            clear HCLn
            clear b1
            have HOE : Hid (OwnR w17 w7.heap.size 70 21 (.slice A18 n c18) n (rxB R_)) := Lib.hid (HCL.out.own.mono HWL.out)
            have HWE : Hid (∀ y, y ∈ R_ → HopW w17 w7.heap.size y) := Lib.hid (fun y hy => ((HCL.out.hop y hy).w).mono HWL.out)
            have HLE : Hid (∀ j, j < n → (R_.getD j rx0).r.n ≤ 8796093021952) := Lib.hid (fun j hj => (HCL.out.hop _ (S_mem HCL.out.len hj)).2)
            have HLL := Lib.hid HCL.out.len
            clear HCL
            have hnI2 : (n : Int) ≤ 9223372036854775807 := by have := HN.out; omega
            go_wp2_with fail
            go_loopw [167] (fun t wr => ∃ j : Nat, j ≤ n ∧ t = .int .i64 j ∧ Hid (OwnR wr w7.heap.size 70 21 (.slice A18 n c18) n (rxB R_)) ∧ Hid (∀ y, y ∈ R_ → HopW wr w7.heap.size y) ∧ Hid (HopW wr w7.heap.size y1) ∧ Hid (Below w7.heap.size w7 wr) ∧ Hid (Blk 70 wr NK13 (rxC y1)) ∧ Hid (Blk 70 wr NK16 (rxC x1))) (fun t _ => n - (intOf t).toNat)
            case atStart => exact ⟨0, by omega, rfl, HOE, HWE, HWy1, HBL, K13, K16⟩
            case round =>
              obtain ⟨i, hi, rfl, rhoe, rhwe, rhwy1, rhbl, rk13, rk16⟩ := hrel
              clear HOE HWE HWy1 HBL K13 K16
              have HOE := rhoe
              have HWE := rhwe
              have HWy1 := rhwy1
              have HBL := rhbl
              have K13 := rk13
              have K16 := rk16
              clear rhoe rhwe rhwy1 rhbl rk13 rk16
              by_cases hin : i < n
              · have HIN := Lib.hid hin
                have hii : (i : Int) < (n : Int) := by omega
                have hi0 : (0 : Int) ≤ (i : Int) := by omega
                clear hin hi
                obtain ⟨y, hy⟩ : ∃ y, R_.getD i rx0 = y := ⟨_, rfl⟩
                have HY := Lib.hid (hy)
                have HYM : Hid (y ∈ R_) := Lib.hid (by rw [← hy]; exact S_mem HLL.out HIN.out)
                have hyI : (y.r.n : Int) ≤ 9223372036854775807 := by have h9 := HLE.out i HIN.out; rw [hy] at h9; omega
                clear hy
                obtain ⟨b0, o0, rfl, r0⟩ := (ownR_rdr HOE.out).row (by have := HIN.out; omega)
                have c20 : wr.cell? ⟨b0, o0 + i * 21 + 20, none⟩ = some (.slice y.A y.r.n y.c) := by have h9 := r0.2 i HIN.out 20 (.slice (R_.getD i rx0).A (R_.getD i rx0).r.n (R_.getD i rx0).c) rfl; rw [HY.out] at h9; exact h9
                clear r0
                go_wp2_with fail
                clear c20
                go_loopw [176] (fun t wr => ∃ j : Nat, j ≤ y.r.n ∧ t = .int .i64 j ∧ Hid (OwnR wr w7.heap.size 70 21 (.slice (some ⟨b0, o0, none⟩) n c18) n (rxB R_)) ∧ Hid (∀ y, y ∈ R_ → HopW wr w7.heap.size y) ∧ Hid (HopW wr w7.heap.size y1) ∧ Hid (Below w7.heap.size w7 wr) ∧ Hid (Blk 70 wr NK13 (rxC y1)) ∧ Hid (Blk 70 wr NK16 (rxC x1))) (fun t _ => y.r.n - (intOf t).toNat)
                case atStart => exact ⟨0, by omega, rfl, HOE, HWE, HWy1, HBL, K13, K16⟩
                case round =>
                  obtain ⟨j, hj, rfl, rhoe, rhwe, rhwy1, rhbl, rk13, rk16⟩ := hrel
                  clear HOE HWE HWy1 HBL K13 K16
                  have HOE := rhoe
                  have HWE := rhwe
                  have HWy1 := rhwy1
                  have HBL := rhbl
                  have K13 := rk13
                  have K16 := rk16
                  clear rhoe rhwe rhwy1 rhbl rk13 rk16
                  by_cases hjn : j < y.r.n
                  · have HJN := Lib.hid hjn
                    have hjj : (j : Int) < (y.r.n : Int) := by omega
                    have hj0 : (0 : Int) ≤ (j : Int) := by omega
                    clear hjn hj
                    obtain ⟨gg, cur, hA, hBg, hblk, hsz, hzz⟩ := HWE.out y HYM.out (by have := HJN.out; omega)
                    obtain ⟨z, hz⟩ := hzz j HJN.out
                    have HBLK := Lib.hid hblk
                    have HSZ2 : Hid (j * 7 + 1 ≤ cur.size) := Lib.hid (by have := HJN.out; omega)
                    have HBG := Lib.hid (hBg)
                    have cz : wr.cell? ⟨gg, j * 7, none⟩ = some (.int .i64 z) := cell_blk hblk hz
                    clear hBg hblk hsz hzz hz
                    obtain ⟨b9, o9, e9, r0⟩ := (ownR_rdr HOE.out).row (by have := HIN.out; omega)
                    cases e9
                    have c20 : wr.cell? ⟨b0, o0 + i * 21 + 20, none⟩ = some (.slice (some ⟨gg, 0, none⟩) y.r.n y.c) := by have h9 := r0.2 i HIN.out 20 (.slice (R_.getD i rx0).A (R_.getD i rx0).r.n (R_.getD i rx0).c) rfl; rw [HY.out, hA] at h9; exact h9
                    clear hA r0
                    obtain ⟨xh, hxh⟩ : ∃ xz : Int, bits .xor .i64 z 2 = xz := ⟨_, rfl⟩
                    have HXH := Lib.hid (hxh)
                    clear hxh
                    go_wp2_with (refine wpList_v (op := ⟨some 188, _, _, _, _, _⟩) rfl (.int .i64 xh) (by rw [← HXH.out]; exact xor1_run _ _ rfl z rfl rfl _) ?_; refine Hid.out ?_)
                    refine Lib.hid ?_
                    go_wp2_with (refine wpList_st rfl 3 (.tmp 190) (.tmp 188) rfl gg (j * 7) rfl (.int .i64 xh) (#[.int .i64 xh]) rfl rfl info_in (hp_one _) HBLK.out HSZ2.out (C' := putMany cur (j * 7) [.int .i64 xh]) rfl ?_; intro wq2 q1; refine Hid.out ?_)
                    refine Lib.hid ?_
                    have HOEn := Lib.hid (HOE.out.stR HBLK.out (by decide) q1)
                    have HWEn := Lib.hid (fun y hy => (HWE.out y hy).put HBLK.out q1)
                    have HWy1n := Lib.hid (HWy1.out.put HBLK.out q1)
                    have HBLn := Lib.hid (HBL.out.trans (q1.2.1 _ HBG.out))
                    have K13n := Lib.hid (K13.out.farN HBLK.out (by decide) q1)
                    have K16n := Lib.hid (K16.out.farN HBLK.out (by decide) q1)
                    clear HOE HWE HWy1 HBL K13 K16 q1 c20 cz HBLK
                    go_wp2_with fail
                    go_roundw
                    case rel => exact ⟨j + 1, HJN.out, by go_num, HOEn, HWEn, HWy1n, HBLn, K13n, K16n⟩
                    case measure => have := HJN.out; simp only [intOf]; omega
                  · obtain hje : j = y.r.n := by omega
                    subst hje
                    clear hj hjn
                    go_wp2_with fail
                    go_roundw
                    case rel => exact ⟨i + 1, HIN.out, by go_num, HOE, HWE, HWy1, HBL, K13, K16⟩
                    case measure => have := HIN.out; simp only [intOf]; omega
              · obtain hie : n = i := by omega
                subst hie
                clear hi hin
                obtain ⟨wv, hwv⟩ : ∃ x : World, x = wr := ⟨_, rfl⟩
                subst hwv
                have HYN : Hid (y1.r.n ≤ 8796093021952) := Lib.hid HAy1.out.le
                have hyI1 : (y1.r.n : Int) ≤ 9223372036854775807 := by have := HYN.out; omega
                have c20 : wv.cell? ⟨NK13, 20, none⟩ = some (.slice y1.A y1.r.n y1.c) := (K13.out.cell 20).trans rfl
                go_wp2_with fail
                clear c20
                clear HOE HWE
                go_loopw [196] (fun t wr => ∃ j : Nat, j ≤ y1.r.n ∧ t = .int .i64 j ∧ Hid (HopW wr w7.heap.size y1) ∧ Hid (Below w7.heap.size w7 wr) ∧ Hid (Blk 70 wr NK13 (rxC y1)) ∧ Hid (Blk 70 wr NK16 (rxC x1))) (fun t _ => y1.r.n - (intOf t).toNat)
                case atStart => exact ⟨0, by omega, rfl, HWy1, HBL, K13, K16⟩
                case round =>
                  obtain ⟨j, hj, rfl, rhwy1, rhbl, rk13, rk16⟩ := hrel
                  clear HWy1 HBL K13 K16
                  have HWy1 := rhwy1
                  have HBL := rhbl
                  have K13 := rk13
                  have K16 := rk16
                  clear rhwy1 rhbl rk13 rk16
                  by_cases hjn : j < y1.r.n
                  · have HJN := Lib.hid hjn
                    have hjj : (j : Int) < (y1.r.n : Int) := by omega
                    have hj0 : (0 : Int) ≤ (j : Int) := by omega
                    clear hjn hj
                    obtain ⟨gg, cur, hA, hBg, hblk, hsz, hzz⟩ := HWy1.out (by have := HJN.out; omega)
                    obtain ⟨z, hz⟩ := hzz j HJN.out
                    have HBLK := Lib.hid hblk
                    have HSZ2 : Hid (j * 7 + 1 ≤ cur.size) := Lib.hid (by have := HJN.out; omega)
                    have HBG := Lib.hid (hBg)
                    have cz : wr.cell? ⟨gg, j * 7, none⟩ = some (.int .i64 z) := cell_blk hblk hz
                    clear hBg hblk hsz hzz hz
                    have c20 : wr.cell? ⟨NK13, 20, none⟩ = some (.slice (some ⟨gg, 0, none⟩) y1.r.n y1.c) := by rw [← hA]; exact (K13.out.cell 20).trans rfl
                    clear hA
                    obtain ⟨xh, hxh⟩ : ∃ xz : Int, bits .xor .i64 z 2 = xz := ⟨_, rfl⟩
                    have HXH := Lib.hid (hxh)
                    clear hxh
                    go_wp2_with (refine wpList_v (op := ⟨some 205, _, _, _, _, _⟩) rfl (.int .i64 xh) (by rw [← HXH.out]; exact xor1_run _ _ rfl z rfl rfl _) ?_; refine Hid.out ?_)
                    refine Lib.hid ?_
                    go_wp2_with (refine wpList_st rfl 3 (.tmp 207) (.tmp 205) rfl gg (j * 7) rfl (.int .i64 xh) (#[.int .i64 xh]) rfl rfl info_in (hp_one _) HBLK.out HSZ2.out (C' := putMany cur (j * 7) [.int .i64 xh]) rfl ?_; intro wq2 q1; refine Hid.out ?_)
                    refine Lib.hid ?_
                    have HWy1n := Lib.hid (HWy1.out.put HBLK.out q1)
                    have HBLn := Lib.hid (HBL.out.trans (q1.2.1 _ HBG.out))
                    have K13n := Lib.hid (K13.out.farN HBLK.out (by decide) q1)
                    have K16n := Lib.hid (K16.out.farN HBLK.out (by decide) q1)
                    clear HWy1 HBL K13 K16 q1 c20 cz HBLK
                    go_wp2_with fail
                    go_roundw
                    case rel => exact ⟨j + 1, HJN.out, by go_num, HWy1n, HBLn, K13n, K16n⟩
                    case measure => have := HJN.out; simp only [intOf]; omega
                  · obtain hje : j = y1.r.n := by omega
                    subst hje
                    clear hj hjn
                    obtain ⟨wf, hwf⟩ : ∃ x : World, x = wr := ⟨_, rfl⟩
                    subst hwf
                    clear HB HTB K5
                    have HB := Lib.hid (HBW.out.trans (HBL.out.mono HBW.out.size))
                    have HTB := Lib.hid (HTW.out.below HBL.out)
                    have K5 := Lib.hid (K57.out.below HBL.out K57.out.lt)
                    go_wp2_with (refine wpList_ld (op := ⟨some 212, _, _, _, _, _⟩) (by rfl) 23 (.tmp 5) rfl NK5 (0) rfl (agC zz) _ K5.out.all Try.underlying23 rfl (hi_ag zz) ?_; refine Hid.out ?_)
                    refine Lib.hid ?_
                    go_wp2_with fail
                    refine (tfind_any tt ss n A c S T 6 zz HX2.out wf HTB.out).mono ?_
                    intro e w20 h9
                    have b1 := h9.1
                    obtain ⟨bq2, y2, er2, rfl, hat, hww, hfd⟩ := tfind_e h9
                    have HBn := Lib.hid (HB.out.trans (b1.mono HB.out.size))
                    clear HB
                    have HB := HBn
                    clear HBn
                    have K5n := Lib.hid (K5.out.below b1 K5.out.lt)
                    clear K5
                    have K5 := K5n
                    clear K5n
                    have HTBn := Lib.hid (HTB.out.below b1)
                    clear HTB
                    have HTB := HTBn
                    clear HTBn
                    have K16n := Lib.hid (K16.out.below b1 K16.out.lt)
                    clear K16
                    have K16 := K16n
                    clear K16n
                    clear b1 h9
                    have HAy2 := Lib.hid (hat)
                    obtain ⟨rfl, e9, hyr⟩ := found_best HTB.out HPM.out HX1.out HRB.out HBB.out (pl := true) hfd
                    rw [HXE.out] at hyr
                    have HY2 := Lib.hid (hyr)
                    clear hat hww hfd e9 hyr
                    obtain ⟨NK23, hNK23⟩ : ∃ N, w20.heap.size = N := ⟨_, rfl⟩
                    have HNK23 := Lib.hid hNK23
                    clear hNK23
                    go_wp2_with (refine wpList_new (op := ⟨some 23, _, _, _, _, _⟩) rfl 70 rfl (rxC rx0) zero_rt NK23 HNK23.out ?_; intro w21 k1 b1 s1; refine Hid.out ?_)
                    refine Lib.hid ?_
                    have KX := Lib.hid k1
                    have BX := Lib.hid b1
                    clear k1 b1 s1
                    go_wp2_with (refine wpList_st rfl 70 (.tmp 23) (.tmp 214) rfl NK23 0 rfl (.agg (rxC y2)) (rxC y2) rfl rfl info_rt (rx_one _) KX.out (Nat.le_of_ble_eq_true rfl) (C' := rxC y2) (rx_over _ _) ?_; intro w22 q1; refine Hid.out ?_)
                    refine Lib.hid ?_
                    have b1 : Below w20.heap.size w20 w22 := BX.out.trans (q1.2.1 _ (by rw [HNK23.out]; exact Nat.le_refl _))
                    have HBn := Lib.hid (HB.out.trans (b1.mono HB.out.size))
                    clear HB
                    have HB := HBn
                    clear HBn
                    have K5n := Lib.hid (K5.out.below b1 K5.out.lt)
                    clear K5
                    have K5 := K5n
                    clear K5n
                    have HTBn := Lib.hid (HTB.out.below b1)
                    clear HTB
                    have HTB := HTBn
                    clear HTBn
                    have K16n := Lib.hid (K16.out.below b1 K16.out.lt)
                    clear K16
                    have K16 := K16n
                    clear K16n
                    have HAy2n := Lib.hid (HAy2.out.below b1)
                    clear HAy2
                    have HAy2 := HAy2n
                    clear HAy2n
                    have K23 : Hid (Blk 70 w22 NK23 (rxC y2)) := Lib.hid q1.1
                    clear KX BX q1 b1 HNK23
                    go_wp2_with (refine wpList_ld (op := ⟨some 219, _, _, _, _, _⟩) (by rfl) 70 (.tmp 23) rfl NK23 (0) rfl (rxC y2) _ K23.out.all Try.underlying70 rfl info_rt ?_; refine Hid.out ?_)
                    refine Lib.hid ?_
                    go_wp2_with (refine wpList_ld (op := ⟨some 220, _, _, _, _, _⟩) (by rfl) 70 (.tmp 16) rfl NK16 (0) rfl (rxC x1) _ K16.out.all Try.underlying70 rfl info_rt ?_; refine Hid.out ?_)
                    refine Lib.hid ?_
                    go_wp2_with fail
                    refine (sameRoute_r HY2.out HXB.out HAy2.out (HXA.out _ HB.out)).mono ?_
                    rintro e w23 ⟨rfl, b1⟩
                    have HBn := Lib.hid (HB.out.trans (b1.mono HB.out.size))
                    clear HB
                    have HB := HBn
                    clear HBn
                    have K5n := Lib.hid (K5.out.below b1 K5.out.lt)
                    clear K5
                    have K5 := K5n
                    clear K5n
                    have HTBn := Lib.hid (HTB.out.below b1)
                    clear HTB
                    have HTB := HTBn
                    clear HTBn
                    have K16n := Lib.hid (K16.out.below b1 K16.out.lt)
                    clear K16
                    have K16 := K16n
                    clear K16n
                    have HAy2n := Lib.hid (HAy2.out.below b1)
                    clear HAy2
                    have HAy2 := HAy2n
                    clear HAy2n
                    have K23n := Lib.hid (K23.out.below b1 K23.out.lt)
                    clear K23
                    have K23 := K23n
                    clear K23n
                    clear b1
                    go_wp2_with fail
                    refine (tlistR_any tt ss n A c S T _ HTB.out).mono ?_
                    rintro e w24 ⟨v25, R2, rfl, hc, b1⟩
                    have HBn := Lib.hid (HB.out.trans (b1.mono HB.out.size))
                    clear HB
                    have HB := HBn
                    clear HBn
                    have K5n := Lib.hid (K5.out.below b1 K5.out.lt)
                    clear K5
                    have K5 := K5n
                    clear K5n
                    have HTBn := Lib.hid (HTB.out.below b1)
                    clear HTB
                    have HTB := HTBn
                    clear HTBn
                    have K16n := Lib.hid (K16.out.below b1 K16.out.lt)
                    clear K16
                    have K16 := K16n
                    clear K16n
                    have HAy2n := Lib.hid (HAy2.out.below b1)
                    clear HAy2
                    have HAy2 := HAy2n
                    clear HAy2n
                    have K23n := Lib.hid (K23.out.below b1 K23.out.lt)
                    clear K23
                    have K23 := K23n
                    clear K23n
                    clear b1
                    have HCL := Lib.hid (hc)
                    clear hc
                    obtain ⟨A25, c25, rfl, _, _, _, _⟩ := HCL.out.own.shape (rxB_recs _) (by decide)
                    go_wp2_with fail
                    refine (order_any L0 a0 n cap0 w24 (HRR.out _ HB.out).1 HRB.out (fun j hj => HX1.out.form j hj) (by have := HN.out; omega)).mono ?_
                    rintro e w25 ⟨b1, o2, rfl, ho⟩
                    have HBn := Lib.hid (HB.out.trans (b1.mono HB.out.size))
                    clear HB
                    have HB := HBn
                    clear HBn
                    have K5n := Lib.hid (K5.out.below b1 K5.out.lt)
                    clear K5
                    have K5 := K5n
                    clear K5n
                    have HTBn := Lib.hid (HTB.out.below b1)
                    clear HTB
                    have HTB := HTBn
                    clear HTBn
                    have K16n := Lib.hid (K16.out.below b1 K16.out.lt)
                    clear K16
                    have K16 := K16n
                    clear K16n
                    have HAy2n := Lib.hid (HAy2.out.below b1)
                    clear HAy2
                    have HAy2 := HAy2n
                    clear HAy2n
                    have K23n := Lib.hid (K23.out.below b1 K23.out.lt)
                    clear K23
                    have K23 := K23n
                    clear K23n
                    have HCLn := Lib.hid (HCL.out.below b1)
                    clear HCL
                    have HCL := HCLn
                    clear HCLn
                    clear b1
                    obtain ⟨Ao2, co2, rfl, _, _, _, hro2⟩ := ho.shape (rxB_recs _) (by decide)
                    have HRo2 := Lib.hid (hro2)
                    clear ho hro2
                    go_wp2_with fail
                    refine (same_any (fun j => R2.getD j rx0) (fun j => (ordL L0 n).getD j rx0) A25 Ao2 n c25 co2 w25 (ownR_rdr HCL.out.own) HRo2.out (fun j hj => by rw [HCL.out.same j hj]; exact ord_at HTB.out HPM.out HAC.out HX1.out HC0.out HRB.out j hj) (fun j hj => by rw [HCL.out.same j hj]; obtain ⟨q, hq, e⟩ := HPM.out.to j hj; rw [e]; exact HRB.out q) (fun j hj => (HCL.out.hop _ (S_mem HCL.out.len hj)).at) (fun j hj => by obtain ⟨q, hq, e⟩ := ord_x (X := L0) hj; rw [e]; exact (HRR.out _ HB.out).2 q hq) (by have := HN.out; omega)).mono ?_
                    rintro e w26 ⟨rfl, b1⟩
                    have HBn := Lib.hid (HB.out.trans (b1.mono HB.out.size))
                    clear HB
                    have HB := HBn
                    clear HBn
                    have K5n := Lib.hid (K5.out.below b1 K5.out.lt)
                    clear K5
                    have K5 := K5n
                    clear K5n
                    have HTBn := Lib.hid (HTB.out.below b1)
                    clear HTB
                    have HTB := HTBn
                    clear HTBn
                    have K16n := Lib.hid (K16.out.below b1 K16.out.lt)
                    clear K16
                    have K16 := K16n
                    clear K16n
                    have HAy2n := Lib.hid (HAy2.out.below b1)
                    clear HAy2
                    have HAy2 := HAy2n
                    clear HAy2n
                    have K23n := Lib.hid (K23.out.below b1 K23.out.lt)
                    clear K23
                    have K23 := K23n
                    clear K23n
                    have HCLn := Lib.hid (HCL.out.below b1)
                    clear HCL
                    have HCL := HCLn
                    clear HCLn
                    clear b1
                    rename_i hK
                    refine hK _ _ ?_
                    clear hK
                    refine wpList_gv (op := ⟨some 229, _, _, _, _, _⟩) (w' := w26) (.bool true) (by rfl) (by go_simp) ?_
                    simp only [Act.put, List.setIfInBounds_toArray, List.set_cons_zero, List.set_cons_succ]
                    refine wpList_gv (op := ⟨some 6, _, _, _, _, _⟩) (w' := w26) (.bool true) (by rfl) (by go_simp) ?_
                    simp only [Act.put, List.setIfInBounds_toArray, List.set_cons_zero, List.set_cons_succ]
                    go_wp2
                    first | (go_ret; exact ⟨rfl, HB.out⟩) | exact ⟨.bool true, by simp [results, Try.f8, go_sem], rfl, HB.out⟩ | exact bodyPost_ret (v := .bool true) (by simp [results, Try.f8, go_sem]) rfl ⟨rfl, HB.out⟩
end Go.Proofs.Ytjnbemopfhinbaa
